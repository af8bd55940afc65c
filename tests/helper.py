"""What the tests of several modules need: checks, wrong values, and standings by trying all rows."""

import copy
import functools
import random
import unittest
from itertools import combinations, permutations, product

from earliestlots.books import Book
from earliestlots.closings import kept_by_lots
from earliestlots.relations import Relation
from earliestlots.rests import over_by_lots
from earliestlots.stripping import all_fitting, left_of

# None of these is an integer from 0.
NO_NUMBERS = (True, False, None, "0", "", 1.0, 0.0, -1, -7, (0,), [0], [], {}, b"0", 1j)

# None of these is a list or tuple.
NO_SEQUENCES = (None, 0, 3, True, "", "01", b"", {}, {0: 0}, {0}, range(2), iter([0]), 1.5, object())

# Some things that are no standings, and the index that BadStanding tells.
NO_STANDINGS = ((None, -1), ("0", -1), ((0, 2), -1), ((0, True), 1), ((0,) * 8, -1), ((-1,), 0), ((1,), -1))

# Some things that are no standings of 2 places, and the index that BadStanding tells.
NO_STANDINGS_OF_2 = (
    (None, -1), ("01", -1), ({0: 0, 1: 1}, -1), ((), -1), ((0,), -1), ((0, 1, 2), -1), ((True, 0, 0), -1), ((0, 2), -1),
    ((1, 1), -1), ([0, 9], -1), ((0, True), 1), ([False, 1.0], 0), ((-1, None), 0), ((0, "0"), 1), ((9, None), 1))

# None of these is a deed.
NO_DEEDS = (None, "", "Lesser", "lesser ", "joining", 0, True, ["lesser"], ("odd",), {}, b"odd", 1.0)

DEEDS = ("lesser", "odd", "common")

# Things that are no facts of a book of 2 dates, and the word of BadBook.
BEFORE = Relation(2, [(0, 1)])
NO_FACTS = [(wrong, "fact") for wrong in NO_SEQUENCES] + [
    ((BEFORE,), "fact"), ((BEFORE, (0, 1), 0), "fact"), ((BEFORE, {0, 1}), "fact"), ((BEFORE, "01"), "fact"),
    ((None, (0, 1)), "places"), ((BEFORE, (0,)), "places"), ((BEFORE, (0, 1, 1)), "places"),
    ((Relation(0, [()]), ()), "places"), (((0, 1), (0, 1)), "places"), ((BEFORE, (0, 2)), "date"),
    ([BEFORE, [0, -1]], "date"), ((BEFORE, (True, 0)), "date"), ((BEFORE, (None, "")), "date")]


class Checks(unittest.TestCase):
    """A test case that also looks at the attributes of errors, and within what is returned."""

    def wrong(self, error, attributes, call, *args, **more):
        """The call raises just this error with just these attributes."""
        with self.assertRaises(error) as caught:
            call(*args, **more)
        self.assertIs(type(caught.exception), error)
        held = vars(caught.exception)
        self.assertEqual(held, attributes)
        for name in attributes:
            self.assertIs(type(held[name]), type(attributes[name]))

    def same(self, got, wanted):
        """Equal, and of the same kinds within: a tuple is no list, and True is no 1."""
        self.assertEqual(got, wanted)
        self.assertEqual(kinds_of(got), kinds_of(wanted))

    def unchanged(self, call, *args):
        """The call leaves what is passed in as it was, and again returns the same; what it returned."""
        before = copy.deepcopy(args)
        first = call(*args)
        self.assertEqual(args, before)
        self.assertEqual(kinds_of(args), kinds_of(before))
        self.same(call(*args), first)
        self.assertEqual(args, before)
        return first


def kinds_of(thing):
    """The class of the thing, and of all within lists and tuples."""
    if isinstance(thing, (list, tuple)):
        return (type(thing), [kinds_of(part) for part in thing])
    return type(thing)


def standings_by_trying(places):
    """All standings of so many places, found among all rows of ranks below places."""
    return list(_standings_by_trying(places))


@functools.cache
def _standings_by_trying(places):
    """What standings_by_trying returns."""
    rows = product(range(places), repeat=places)
    return [row for row in rows if set(row) == set(range(max(row, default=-1) + 1))]


def ranked(keys):
    """The standing of the keys, by counting the unlike lesser keys of each."""
    return tuple(len({low for low in keys if low < key}) for key in keys)


def part_of(standing, places):
    """The standing of these places, as cut_down is told to give it."""
    return ranked([standing[place] for place in places])


def subsets(things):
    """All rows of some of the things, in their order, by size."""
    things = list(things)
    return [row for size in range(len(things) + 1) for row in combinations(things, size)]


def small_relations():
    """All relations of at most 2 places."""
    return [Relation(places, chosen) for places in range(3) for chosen in subsets(standings_by_trying(places))]


def some_relations(places, many):
    """Some relations of so many places, the same ones at each run."""
    picker = random.Random(places)
    standings = standings_by_trying(places)
    return [Relation(places, picker.sample(standings, picker.randint(0, len(standings)))) for _ in range(many)]


def thin_relations(places, many, most):
    """Some relations of so many places with at most so many members, the same ones at each run."""
    picker = random.Random(places * 100 + most)
    standings = standings_by_trying(places)
    return [Relation(places, picker.sample(standings, picker.randint(0, most))) for _ in range(many)]


def relations_but_for_renaming(places):
    """Of all relations of so many places, one of each that differ by the names of their places only."""
    standings = standings_by_trying(places)
    orders = [[standings.index(part_of(standing, order)) for standing in standings]
              for order in permutations(range(places))]
    found = []
    for chosen in product((0, 1), repeat=len(standings)):
        if all(tuple(chosen[at] for at in order) <= chosen for order in orders):
            found.append(Relation(places, [standing for standing, use in zip(standings, chosen) if use]))
    return found


def front(member):
    """The places of rank 0."""
    return tuple(place for place, rank in enumerate(member) if rank == 0)


@functools.cache
def layers(member):
    """For each rank its places."""
    return tuple(tuple(place for place, rank in enumerate(member) if rank == layer) for layer in sorted(set(member)))


def standing_with(rows):
    """The standing with these layers."""
    ranks = {place: rank for rank, row in enumerate(rows) for place in row}
    return tuple(ranks[place] for place in range(len(ranks)))


def lots_as_told(relation):
    """The earliest lots, by trying all lots in their order."""
    return tuple(lot for lot in subsets(range(relation.places))[1:] if lot in [front(row) for row in relation.members])


def rest_as_told(relation, lot):
    """The rest by an earliest lot."""
    others = [place for place in range(relation.places) if place not in lot]
    members = [part_of(member, others) for member in relation.members if front(member) == lot]
    return Relation(len(others), members)


def row_order(row):
    """What rows of lots are ordered by."""
    return [(len(lot), lot) for lot in row]


def rows_as_told(relation):
    """All rows of lots behind which a place is left, in their order, with the places left and the rest."""
    return list(_rows_as_told(relation.places, relation.members))


@functools.lru_cache(4000)
def _rows_as_told(places, members):
    """What rows_as_told returns for the relation with these members."""
    if places == 0:
        return []
    rows = {layers(member)[:many] for member in members for many in range(len(layers(member)))} | {()}
    found = []
    for row in sorted(rows, key=row_order):
        left = tuple(place for place in range(places) if not any(place in lot for lot in row))
        rest = [part_of(member, left) for member in members if layers(member)[:len(row)] == row]
        found.append((row, left, Relation(len(left), rest)))
    return found


def linings_by_trying(first, second):
    """All linings of two standings with so many ranks, ascending, put together from their last entries."""
    if first == 0 and second == 0:
        return [()]
    rows = []
    for entry, ones, others in ((0, 1, 0), (1, 0, 1), (2, 1, 1)):
        if first >= ones and second >= others:
            rows += [row + (entry,) for row in linings_by_trying(first - ones, second - others)]
    return sorted(rows)


def couples(most):
    """All couples of standings of one number of places up to most."""
    return [(one, other) for places in range(most + 1)
            for one in standings_by_trying(places) for other in standings_by_trying(places)]


def lined_couples(most):
    """All couples of standings with each of their linings."""
    return [(one, other, lining) for one, other in couples(most)
            for lining in linings_by_trying(len(set(one)), len(set(other)))]


def made_as_told(deed, one, other, lining):
    """What the deed makes, by the keys as [3.6] lists them."""
    firsts, seconds = [], []
    for moment, entry in enumerate(lining):
        if entry in (0, 2):
            firsts.append(moment)
        if entry in (1, 2):
            seconds.append(moment)
    keys = []
    for rank, beside in zip(one, other):
        a, b = firsts[rank], seconds[beside]
        turn = {"lesser": 0, "odd": int(a == b), "common": 0 if a == b else 1 if b < a else 2}[deed]
        keys.append((min(a, b), turn))
    return ranked(keys)


def kept_as_told(relation, deed):
    """Whether all couples of members and all linings make members."""
    return all(
        made_as_told(deed, one, other, lining) in relation.members
        for one in relation.members for other in relation.members
        for lining in linings_by_trying(len(set(one)), len(set(other))))


def over_as_told(one, cut, other):
    """What one taken over by other at the cut is, by the keys as [3.7] lists them."""
    return ranked([(0, rank) if rank < cut else (1, beside) for rank, beside in zip(one, other)])


def fits_as_told(dating, fact):
    """Whether the dating, cut down to the dates of the fact place by place, is a member of its relation."""
    relation, dates = fact
    return ranked([dating[date] for date in dates]) in relation.members


def datings_as_told(book):
    """All datings of the book, by trying all standings."""
    return [standing for standing in standings_by_trying(book.size)
            if all(fits_as_told(standing, fact) for fact in book.facts)]


@functools.cache
def _member_sets_kept_by_lesser(places):
    """The sets of members of all relations of so many places, at most 3, that lesser keeps."""
    found = [relation for relation in relations_but_for_renaming(places) if kept_by_lots(relation, "lesser")]
    return {frozenset(part_of(member, order) for member in relation.members)
            for relation in found for order in permutations(range(places))}


def least_kept_by_lesser(relation):
    """What all relations that lesser keeps and that have all members have in common."""
    members = frozenset(relation.members)
    wider = [kept for kept in _member_sets_kept_by_lesser(relation.places) if members <= kept]
    return Relation(relation.places, list(frozenset.intersection(*wider)))


@functools.cache
def kept_relations(way):
    """Relations of 1 to 4 places, with members, that a deed keeps, or that can be taken over ("over"), or any."""
    relations = small_relations() + relations_but_for_renaming(3)[::3]
    relations += [Relation(4, [standing]) for standing in standings_by_trying(4)[::4]]
    for asked in (lambda rank, others: rank > min(others), lambda rank, others: rank > max(others),
                  lambda rank, others: rank >= min(others), lambda rank, others: rank < min(others),
                  lambda rank, others: rank not in others, lambda rank, others: rank <= max(others)):
        relations += [Relation(4, [row for row in standings_by_trying(4) if asked(row[0], row[1:])])]
    relations = [relation for relation in relations if relation.places > 0 and len(relation) > 0]
    if way == "any":
        return relations
    if way == "over":
        return [relation for relation in relations if over_by_lots(relation)]
    return [relation for relation in relations if kept_by_lots(relation, way)]


def some_books(way, size, many, most=4):
    """Some books of so many dates with up to so many facts that are kept so, the same ones at each run."""
    picker = random.Random(f"{way} {size} {most}")
    return [Book(size, [some_fact(picker, way, size) for _ in range(picker.randint(0, most) if size > 0 else 0)])
            for _ in range(many)]


def some_fact(picker, way, size):
    """A fact that is kept so, now and then with a date twice or without members."""
    places = picker.choice((1, 2, 2, 3, 3, 3, 4))
    relation = picker.choice([row for row in kept_relations(way) if row.places == places])
    if picker.randint(0, 40) == 0:
        relation = Relation(places, ())
    if places <= size and picker.randint(0, 4) > 0:
        return (relation, picker.sample(range(size), places))
    return (relation, picker.choices(range(size), k=places))


def facts_as_told(left):
    """For each fact its dates left and its lots as sets of dates."""
    facts = []
    for number in range(len(left.book)):
        relation, dates = left.left_fact(number)
        facts.append((dates, [{dates[place] for place in lot} for lot in lots_as_told(relation)]))
    return facts


def some_lefts(way):
    """What is left of some books of this way, behind some runs of lots."""
    picker = random.Random(56)
    lefts = []
    for size, many in ((0, 1), (1, 6), (2, 15), (3, 25), (4, 25), (5, 15), (7, 5)):
        for book in some_books(way, size, many, 5):
            left = left_of(book)
            lefts.append(left)
            while all_fitting(left):
                left = left.take_lot(picker.choice(all_fitting(left)))
                lefts.append(left)
    return lefts
