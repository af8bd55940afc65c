"""What the tests of several modules need: checks, wrong values, and standings by trying all rows."""

import copy
import unittest
from itertools import combinations, product

# None of these is an integer from 0.
NO_NUMBERS = (True, False, None, "0", "", 1.0, 0.0, -1, -7, (0,), [0], [], {}, b"0", 1j)

# None of these is a list or tuple.
NO_SEQUENCES = (None, 0, 3, True, "", "01", b"", {}, {0: 0}, {0}, range(2), iter([0]), 1.5, object())

# None of these is a deed.
NO_DEEDS = (None, "", "Lesser", "lesser ", "joining", 0, True, ["lesser"], ("odd",), {}, b"odd", 1.0)

DEEDS = ("lesser", "odd", "common")


class Checks(unittest.TestCase):
    """A test case that also looks at the attributes of errors, and within what is returned."""

    def wrong(self, error, attributes, call, *args, **more):
        """The call raises just this error with just these attributes."""
        with self.assertRaises(error) as caught:
            call(*args, **more)
        self.assertIs(type(caught.exception), error)
        held = vars(caught.exception)
        self.assertEqual(held, attributes)
        for name in attributes:
            self.assertIs(type(held[name]), type(attributes[name]))

    def same(self, got, wanted):
        """Equal, and of the same kinds within: a tuple is no list, and True is no 1."""
        self.assertEqual(got, wanted)
        self.assertEqual(kinds_of(got), kinds_of(wanted))

    def unchanged(self, call, *args):
        """The call leaves what is passed in as it was, and again returns the same; what it returned."""
        before = copy.deepcopy(args)
        first = call(*args)
        self.assertEqual(args, before)
        self.assertEqual(kinds_of(args), kinds_of(before))
        self.same(call(*args), first)
        self.assertEqual(args, before)
        return first


def kinds_of(thing):
    """The class of the thing, and of all within lists and tuples."""
    if isinstance(thing, (list, tuple)):
        return (type(thing), [kinds_of(part) for part in thing])
    return type(thing)


def standings_by_trying(places):
    """All standings of so many places, found among all rows of ranks below places."""
    rows = product(range(places), repeat=places)
    return [row for row in rows if set(row) == set(range(max(row, default=-1) + 1))]


def ranked(keys):
    """The standing of the keys, by counting the unlike lesser keys of each."""
    return tuple(len({low for low in keys if low < key}) for key in keys)


def part_of(standing, places):
    """The standing of these places, as cut_down is told to give it."""
    return ranked([standing[place] for place in places])


def subsets(things):
    """All rows of some of the things, in their order, by size."""
    things = list(things)
    return [row for size in range(len(things) + 1) for row in combinations(things, size)]
