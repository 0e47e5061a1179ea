"""The tests of Livingroll."""
