"""Livingroll: group membership by gossip."""
