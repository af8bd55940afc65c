"""What the tests of several modules need: checks, wrong values, and standings by trying all rows."""

import copy
import random
import unittest
from itertools import combinations, product

from earliestlots.relations import Relation

# None of these is an integer from 0.
NO_NUMBERS = (True, False, None, "0", "", 1.0, 0.0, -1, -7, (0,), [0], [], {}, b"0", 1j)

# None of these is a list or tuple.
NO_SEQUENCES = (None, 0, 3, True, "", "01", b"", {}, {0: 0}, {0}, range(2), iter([0]), 1.5, object())

# Some things that are no standings, and the index that BadStanding tells.
NO_STANDINGS = ((None, -1), ("0", -1), ((0, 2), -1), ((0, True), 1), ((0,) * 8, -1), ((-1,), 0), ((1,), -1))

# None of these is a deed.
NO_DEEDS = (None, "", "Lesser", "lesser ", "joining", 0, True, ["lesser"], ("odd",), {}, b"odd", 1.0)

DEEDS = ("lesser", "odd", "common")


class Checks(unittest.TestCase):
    """A test case that also looks at the attributes of errors, and within what is returned."""

    def wrong(self, error, attributes, call, *args, **more):
        """The call raises just this error with just these attributes."""
        with self.assertRaises(error) as caught:
            call(*args, **more)
        self.assertIs(type(caught.exception), error)
        held = vars(caught.exception)
        self.assertEqual(held, attributes)
        for name in attributes:
            self.assertIs(type(held[name]), type(attributes[name]))

    def same(self, got, wanted):
        """Equal, and of the same kinds within: a tuple is no list, and True is no 1."""
        self.assertEqual(got, wanted)
        self.assertEqual(kinds_of(got), kinds_of(wanted))

    def unchanged(self, call, *args):
        """The call leaves what is passed in as it was, and again returns the same; what it returned."""
        before = copy.deepcopy(args)
        first = call(*args)
        self.assertEqual(args, before)
        self.assertEqual(kinds_of(args), kinds_of(before))
        self.same(call(*args), first)
        self.assertEqual(args, before)
        return first


def kinds_of(thing):
    """The class of the thing, and of all within lists and tuples."""
    if isinstance(thing, (list, tuple)):
        return (type(thing), [kinds_of(part) for part in thing])
    return type(thing)


def standings_by_trying(places):
    """All standings of so many places, found among all rows of ranks below places."""
    rows = product(range(places), repeat=places)
    return [row for row in rows if set(row) == set(range(max(row, default=-1) + 1))]


def ranked(keys):
    """The standing of the keys, by counting the unlike lesser keys of each."""
    return tuple(len({low for low in keys if low < key}) for key in keys)


def part_of(standing, places):
    """The standing of these places, as cut_down is told to give it."""
    return ranked([standing[place] for place in places])


def subsets(things):
    """All rows of some of the things, in their order, by size."""
    things = list(things)
    return [row for size in range(len(things) + 1) for row in combinations(things, size)]


def small_relations():
    """All relations of at most 2 places."""
    return [Relation(places, chosen) for places in range(3) for chosen in subsets(standings_by_trying(places))]


def some_relations(places, many):
    """Some relations of so many places, the same ones at each run."""
    picker = random.Random(places)
    standings = standings_by_trying(places)
    return [Relation(places, picker.sample(standings, picker.randint(0, len(standings)))) for _ in range(many)]


def linings_by_trying(first, second):
    """All linings of two standings with so many ranks, ascending, put together from their last entries."""
    if first == 0 and second == 0:
        return [()]
    rows = []
    for entry, ones, others in ((0, 1, 0), (1, 0, 1), (2, 1, 1)):
        if first >= ones and second >= others:
            rows += [row + (entry,) for row in linings_by_trying(first - ones, second - others)]
    return sorted(rows)


def couples(most):
    """All couples of standings of one number of places up to most."""
    return [(one, other) for places in range(most + 1)
            for one in standings_by_trying(places) for other in standings_by_trying(places)]


def lined_couples(most):
    """All couples of standings with each of their linings."""
    return [(one, other, lining) for one, other in couples(most)
            for lining in linings_by_trying(len(set(one)), len(set(other)))]


def made_as_told(deed, one, other, lining):
    """What the deed makes, by the keys as [3.6] lists them."""
    firsts, seconds = [], []
    for moment, entry in enumerate(lining):
        if entry in (0, 2):
            firsts.append(moment)
        if entry in (1, 2):
            seconds.append(moment)
    keys = []
    for rank, beside in zip(one, other):
        a, b = firsts[rank], seconds[beside]
        turn = {"lesser": 0, "odd": int(a == b), "common": 0 if a == b else 1 if b < a else 2}[deed]
        keys.append((min(a, b), turn))
    return ranked(keys)


def kept_as_told(relation, deed):
    """Whether all couples of members and all linings make members."""
    return all(
        made_as_told(deed, one, other, lining) in relation.members
        for one in relation.members for other in relation.members
        for lining in linings_by_trying(len(set(one)), len(set(other))))


def over_as_told(one, cut, other):
    """What one taken over by other at the cut is, by the keys as [3.7] lists them."""
    return ranked([(0, rank) if rank < cut else (1, beside) for rank, beside in zip(one, other)])
