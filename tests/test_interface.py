"""The interface: names, arguments, and the places in which they are defined."""

import inspect
import unittest
from importlib import import_module

from livingroll.setting import Setting

ERRORS = {
    "GroupError": None,
    "InvalidSetting": "(field)", "InvalidSaying": "(saying)", "InvalidLetter": "(reason)", "InvalidPlan": "(index)",
    "InvalidKey": "(key)", "InvalidLine": "(line)", "UnknownSeat": "(seat)", "UnknownKey": "(key)",
    "DeedRefused": "(deed)", "TooMuch": "(limit)",
    "NoBook": None, "NothingToUndo": None, "NothingToRedo": None,
}

# For each module its functions and the constructors of its classes, with their arguments (None: not looked at).
CALLS = {
    "errors": ERRORS,
    "setting": {
        "Setting": "(bits, patience, room, *, grace=6, helpers=1)",
        "distance": "(setting, seat, other)",
        "first_from": "(setting, place, held)",
        "arc": "(setting, low, high, held)",
    },
    "sayings": {
        "check_saying": "(setting, saying)",
        "rank": "(saying)",
        "later": "(one, other)",
        "format_saying": "(saying)",
        "parse_saying": "(setting, text)",
    },
    "letters": {
        "Letter": "(sender, receiver, beat, number, sayings)",
        "Ask": "(sender, receiver, beat, number, sayings)",
        "Answer": "(sender, receiver, beat, number, sayings)",
        "Probe": "(sender, receiver, beat, number, sayings, about)",
        "Probed": "(sender, receiver, beat, number, sayings, about, reached)",
        "Sums": "(sender, receiver, beat, number, sayings, sums, position, more)",
    },
    "wire": {
        "format_letter": "(letter)",
        "parse_letter": "(setting, text)",
    },
    "book": {"Book": "(setting, sayings=())"},
    "news": {"News": "(setting)"},
    "plan": {
        "phase_of": "(setting, beat)",
        "target": "(setting, seat, beat, held)",
        "fingers": "(setting, seat, held)",
        "plan_rounds": "(setting, held, start, count)",
    },
    "spread": {
        "Spread": "(setting, held, origins, start, *, tellings=None, shifts=None)",
        "is_fair": "(setting, held, start, lost, *, shifts=None)",
        "rounds_to_all": "(setting, held, origins, start, lost, *, tellings=None, shifts=None)",
    },
    "bounds": {
        "quick_bound": "(setting)",
        "loose_bound": "(setting)",
        "telling_bound": "(setting)",
        "worst_case": "(setting)",
        "short_case": "(setting)",
    },
    "papers": {
        "least_rounds": "(count)",
        "least_letters": "(count)",
        "tree_plan": "(seats)",
        "judge_plan": "(seats, origin, plan)",
        "explain_paper": "(setting, held, origin, start, seen, count)",
    },
    "probing": {
        "Tour": "(setting, seat, *, behind=None)",
        "Misses": "(setting)",
        "Doubts": "(setting)",
        "helpers_for": "(setting, seat, about, alive)",
    },
    "ranges": {
        "moments": "(book, low, width)",
        "clash": "(book, other)",
    },
    "exchange": {
        "Side": "(setting, book, taker=None)",
        "reconcile": "(setting, book, other, *, stripe=0)",
        "item_bound": "(setting, differing)",
        "letter_bound": "(setting, differing)",
    },
    "mending": {
        "disk_line": "(body)",
        "mend_area": "(setting, text)",
        "mended": "(setting, areas)",
        "restore": "(setting, areas)",
    },
    "disk": {"Disk": None},
    "member": {"Member": None},
    "losses": {"Losses": "()", "DrawnLosses": "(digits)", "FairLosses": "(digits, patience)"},
    "world": {"World": "(setting, *groups, drift=1, wire=False)"},
    "calm": {
        "is_fair_since": "(world, t)",
        "linked": "(world)",
        "names_held": "(world)",
        "settle_bound": "(setting, names, living, *, drift=1)",
        "settled": "(world)",
        "change_bound": "(kind, setting, names)",
    },
    "keys": {
        "place_of": "(setting, key)",
        "keeper": "(setting, key, alive)",
        "shares": "(setting, alive)",
        "moved": "(setting, keys, before, after)",
    },
    "shelf": {"Shelf": "(setting)"},
    "watch": {"Watch": "()", "replayed": "(events)"},
    "twin": {"Twin": "(founders)"},
    "judge": {
        "wrong_entries": "(journals, *, partial=())",
        "first_wrong": "(journals, *, partial=())",
        "explains": "(journals, seats, *, partial=())",
        "least_liars": "(journals, *, partial=())",
    },
    "desk": {"Desk": "(setting, founders)"},
}

# For each class what stands in its body: methods with their arguments, "property", or "class method" with arguments.
BODIES = {
    "setting.Setting": {
        "seats": "property", "cycle": "property", "stripes": "property",
        "of_text": "class method (text)", "__str__": "(self)",
    },
    "letters.Letter": {"size": "property", "head": "(self)", "parts": "(self)"},
    "letters.Ask": {"size": "property", "head": "(self)", "parts": "(self)"},
    "letters.Answer": {"size": "property", "head": "(self)", "parts": "(self)"},
    "letters.Probe": {"size": "property", "head": "(self)", "parts": "(self)"},
    "letters.Probed": {"size": "property", "head": "(self)", "parts": "(self)"},
    "letters.Sums": {"size": "property", "head": "(self)", "parts": "(self)"},
    "book.Book": {
        "take": "(self, saying)", "of": "(self, seat)", "rows": "(self)", "held": "(self)", "marked": "(self, *marks)",
        "covers": "(self, other)", "ahead_of": "(self, other)", "copy": "(self)", "text": "(self)",
        "of_text": "class method (setting, text)",
        "__contains__": "(self, seat)", "__len__": "(self)", "__or__": "(self, other)", "__eq__": "(self, other)",
    },
    "news.News": {
        "note": "(self, saying)", "pick": "(self)", "told": "(self, sayings)", "rows": "(self)", "hot": "(self, seat)",
        "quiet": "property", "__len__": "(self)",
    },
    "spread.Spread": {
        "done": "property", "stuck": "property",
        "step": "(self, lost=())", "known": "(self)", "since": "(self, seat)",
    },
    "probing.Tour": {"aim": "(self, names)", "report": "(self, passed)"},
    "probing.Misses": {"miss": "(self, seat, kind)", "heard": "(self, seat)", "count": "(self, seat, kind)"},
    "probing.Doubts": {
        "doubt": "(self, seat, life, now)", "lift": "(self, seat)", "since": "(self, seat)", "due": "(self, book, now)",
    },
    "exchange.Side": {
        "begin": "(self, stripe)", "next_items": "(self)", "receive": "(self, sayings, sums)", "idle": "property",
    },
    "disk.Disk": {
        "fresh": "class method (setting, rows)", "reopened": "class method (setting, areas)",
        "pending": "property", "log_lines": "property",
        "append": "(self, saying)", "rewrite": "(self, rows)", "flush": "(self)", "crash": "(self, keep)",
        "areas": "(self)",
    },
    "member.Member": {
        "founder": "class method (setting, seat, founders)", "joiner": "class method (setting, seat, sponsor)",
        "returned": "class method (setting, seat, areas)", "life": "property", "gone": "property",
        "learn": "(self, saying, source)", "put": "(self, worth)", "leave": "(self)", "suspect": "(self, seat)",
        "quick": "(self)", "answer": "(self, ask)", "hear": "(self, letter)", "slow": "(self)", "end_round": "(self)",
    },
    "losses.Losses": {"__call__": "(self, caller, called, kind)"},
    "losses.DrawnLosses": {"__call__": "(self, caller, called, kind)"},
    "losses.FairLosses": {"__call__": "(self, caller, called, kind)"},
    "world.World": {
        "clock": "property", "tick": "(self, losses=None, *, asleep=())",
        "admit": "(self, seat, sponsor)", "leave": "(self, seat)", "put": "(self, seat, worth)",
        "crash": "(self, seat, *, keep=0)", "revive": "(self, seat)", "sever": "(self, one, other)",
        "mend": "(self, one, other)", "divide": "(self, *groups)", "heal": "(self)", "stray": "(self, index)",
        "introduce": "(self, seat, other)", "history": "(self)",
        "living": "(self)", "up": "(self)", "used": "(self)", "book_of": "(self, seat)", "roll_of": "(self, seat)",
        "life_of": "(self, seat)", "beat_of": "(self, seat)", "worth_of": "(self, seat)", "areas_of": "(self, seat)",
        "letters": "(self)", "letter": "(self, index)", "tries": "(self, since=0)", "journals": "(self)",
    },
    "shelf.Shelf": {
        "enter": "(self, key, text)", "drop": "(self, key)", "duties": "(self, book)", "rows": "(self)",
        "total": "property", "merged": "(self, *others, keep=True)",
    },
    "watch.Watch": {
        "see": "(self, book)", "changes": "(self, kind=None)", "pause": "(self)", "resume": "(self)", "paused": "property",
    },
    "twin.Twin": {"follow": "(self, deed)", "living": "(self)", "behind": "static method (founders, history)"},
    "desk.Desk": {
        "do": "(self, line)", "undo": "(self)", "redo": "(self)", "lines": "(self)", "most": "property",
        "change": "(self, name, value)", "show": "(self)", "__str__": "(self)", "tried": "(self, lines)",
        "trial": "(self)", "world": "(self)", "settle": "(self)",
    },
}

# What each object of a class has as an attribute when it was made.
ATTRIBUTES = {
    "losses.Losses": ("asked",), "losses.DrawnLosses": ("asked",), "losses.FairLosses": ("asked",),
    "world.World": ("drift",),
}
MADE_OF = {"DrawnLosses": ([1],), "FairLosses": ([1], 2), "World": (Setting(3, 1, 4), [1, 4])}


def named(module, name):
    return getattr(import_module("livingroll." + module), name)


def described(owner, name):
    """Tell what stands in the body of a class under a name."""
    value = vars(owner)[name]
    if isinstance(value, property):
        return "property"
    if isinstance(value, staticmethod):
        return "static method " + str(inspect.signature(getattr(owner, name)))
    if isinstance(value, classmethod):
        return "class method " + str(inspect.signature(getattr(owner, name)))
    return str(inspect.signature(value))


class Interface(unittest.TestCase):
    def test_functions_and_classes_have_their_arguments(self):
        for module, calls in CALLS.items():
            for name, told in calls.items():
                with self.subTest(module=module, name=name):
                    if told is not None:
                        self.assertEqual(told, str(inspect.signature(named(module, name))))

    def test_functions_and_classes_are_defined_in_their_files(self):
        for module, calls in CALLS.items():
            for name in calls:
                with self.subTest(module=module, name=name):
                    self.assertEqual("livingroll." + module, named(module, name).__module__)

    def test_methods_stand_in_the_bodies_of_their_classes(self):
        for place, body in BODIES.items():
            module, name = place.split(".")
            for word, told in body.items():
                with self.subTest(place=place, word=word):
                    self.assertEqual(told, described(named(module, name), word))

    def test_objects_have_their_attributes(self):
        for place, names in ATTRIBUTES.items():
            module, name = place.split(".")
            made = named(module, name)(*MADE_OF.get(name, ()))
            self.assertLessEqual(set(names), set(vars(made)), place)

    def test_generators(self):
        for module, owner, name in (("watch", "Watch", "changes"), ("plan", None, "plan_rounds")):
            function = getattr(named(module, owner), name) if owner else named(module, name)
            self.assertTrue(inspect.isgeneratorfunction(function), name)
