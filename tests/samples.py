"""Programs and checks that several tests share."""

import copy
import unittest

COUNT = (
    (("n", "kept", 3, 0),),
    (("unless", ("less", "n", 2), 3, 1), ("set", "n", ("plus", "n", 1), 2), ("jump", 0, 1), ("end",)),
    ("n",),
)
TWICE = (
    (("q", "quick", 1, 0), ("x", "kept", 3, 0)),
    (("set", "x", ("plus", "x", 1), 1), ("set", "q", 1, 5), ("end",)),
    ("x",),
)
LATE = ((("s", "saved", 1, 0),), (("set", "s", 1, 6), ("mark", 1), ("end",)), ("s",))
LOOP = ((), (("jump", 0, 2),), ())
NOTHING = ((), (("end",),), ())

# One cell of each kind, an ask, marks that are on and off, and names that are words of the package.
MIXED = (
    (("kept", "kept", 2, 1), ("quick", "quick", 1, 1), ("set", "saved", 3, 3)),
    (
        ("ask", "kept", 2),
        ("off", 4),
        ("set", "set", ("minus", "kept", ("times", "set", 3)), 1),
        ("mark", 3),
        ("unless", ("not", ("equal", "quick", ("plus", "set", "kept"))), 1, 2),
        ("set", "quick", 0, 9),
        ("end",),
        ("jump", 0, 5),
    ),
    ("kept", "set"),
)

SIXTY = int("9" * 60)

# What is neither a name of a cell, nor a place, nor a kind, nor a tuple of these.
NEITHER = (None, True, False, -1, "", "N", "n ", "n\n", "ninechars", [], ["n"], ["end"], (None,), (True,), ([],))

ANYTHING = NEITHER + (0, 1, 7, SIXTY, "n", "set", (), ((),), (0,), (0, 1), ("n",), ("end",), ((), (), ()), COUNT)


def nested(word, leaf, deep):
    """An expression of a word that is nested this deep, on alternating sides."""
    tree = leaf
    for level in range(deep):
        tree = (word, tree, 1) if level % 2 else (word, 1, tree)
    return tree


def negated(test, deep):
    """A test inside this many "not"."""
    for _ in range(deep):
        test = ("not", test)
    return test


def with_changed(things, at, thing):
    """A tuple with another thing at an index."""
    return things[:at] + (thing,) + things[at + 1:]


class Checks(unittest.TestCase):
    """Checks of kinds as well as of values: 1 is not True, and a list is no tuple."""

    def same(self, got, wanted):
        self.assertEqual(repr(got), repr(wanted))

    def refused(self, error, fields, function, *given, **named):
        kept = copy.deepcopy((given, named))
        with self.assertRaises(error) as caught:
            function(*given, **named)
        self.assertIs(caught.exception.__class__, error)
        self.assertEqual(repr(vars(caught.exception)), repr(fields))
        self.assertEqual(repr((given, named)), repr(kept))
