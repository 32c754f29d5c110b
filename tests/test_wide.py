"""Wide rooms: looks, contexts, plain books, their bests and sweeps, two standings of them."""

import itertools
import unittest

from allelse.bests import bests
from allelse.errors import NotKept, NotSettled, TooMany
from allelse.rings import ring_or_worths
from allelse.settled import settled
from allelse.steps import betterings, local_pairs, why
from allelse.sweep import best
from allelse.wide import contexts, first_unlike, is_wide, looked_at, pairs_at, plain, wide_best, wide_swept
from support import (
    GREAT, all_givens, all_rooms, all_standings, check_told, check_truth, has_round, is_kept, is_plain, kept,
    odd_things, plain_better, plain_books, plain_order, plain_steps, put, refusal, right_round, rising, settled_books,
    some_books, spoil, spoilt, unlike_at,
)

ROOMS = ((2,), (4,), (2, 2), (3, 2), (2, 4), (2, 2, 2), (2, 3, 2), (2, 2, 2, 2))
WIDE_ROOMS = ((2,) * 16, (4,) * 16, (3, 2, 4) * 5, (4, 4, 4, 4, 2), (2,) * 9)
UP = ((), 0, 1, 0)
DOWN = ((), 0, 0, 1)
GOES_WITH = (UP, (((0, 1),), 1, 1, 0), (((0, 0),), 1, 0, 1))


def looks_of(room, book):
    return [(wish[1], box) for wish in book for box, worth in wish[0]]


def plain_looked(book, box):
    return sorted({other for given, at, better, worse in book if at == box for other, worth in given})


def plain_contexts(room, boxes):
    return [tuple(zip(boxes, row)) for row in itertools.product(*[range(room[box]) for box in boxes])]


def pairs_in(book, box, context):
    told = set()
    for given, at, better, worse in book:
        if at == box and set(given) <= set(context):
            told.add((worse, better))
    return sorted(told)


def tops_of(worths, pairs):
    return [worth for worth in range(worths) if worth not in [worse for worse, better in pairs]]


def full_look(room, box, others):
    """Wishes for the box that look at just these others and go up in each of their contexts."""
    up = [(worth, worth + 1) for worth in range(room[box] - 1)]
    return tuple((context, box, better, worse) for context in plain_contexts(room, others) for worse, better in up)


def looking(room, box, others):
    """A plain book by which the box looks at just these others, and all boxes go up."""
    own = tuple((((other, 0),), box, 1, 0) for other in others)
    return rising(room) + own


class Rooms(unittest.TestCase):
    def test_rooms(self):
        for many in range(1, 17):
            for worths in (2, 3, 4):
                check_truth(self, True, is_wide, (worths,) * many)
        for thing in ((2,) * 17, (), (5,), (1,), (0,), (-2,), (2, 5),
                      (4,) * 15 + (1,), [2, 2], (2, True), (2, None), "22",
                      (GREAT,), ((2,),), {0: 2}, (2, "2")):
            check_truth(self, False, is_wide, thing)
        for room in all_rooms()[::50]:
            check_truth(self, True, is_wide, room)

    def test_of_anything(self):
        for thing in odd_things() + spoilt((2, 3, 4)) + spoilt((4,) * 16):
            wanted = type(thing) is tuple and 1 <= len(thing) <= 16
            wanted = wanted and all(type(worths) is int and 2 <= worths <= 4 for worths in thing)
            check_truth(self, wanted, is_wide, thing)


class Looks(unittest.TestCase):
    def test_looked_at(self):
        book = ((((4, 0), (15, 1)), 0, 1, 0), (((2, 1),), 0, 0, 1), (((4, 1),), 0, 0, 1), (((0, 1),), 3, 0, 1))
        self.assertEqual(looked_at(book, 0), [2, 4, 15])
        self.assertEqual(looked_at(book, 3), [0])
        self.assertEqual(looked_at(book, 1), [])
        self.assertEqual(looked_at((), 0), [])
        self.assertEqual(looked_at(GOES_WITH, 0), [])

    def test_a_box_may_look_at_one_on_which_it_does_not_hang(self):
        book = ((((1, 0),), 0, 1, 0), (((1, 1),), 0, 1, 0))
        self.assertEqual(looked_at(book, 0), [1])

    def test_contexts(self):
        self.assertEqual(contexts((2, 2), []), [()])
        self.assertEqual(contexts((2, 3), [1]), [((1, 0),), ((1, 1),), ((1, 2),)])
        self.assertEqual(contexts((2,) * 16, [3, 15]), [
            ((3, 0), (15, 0)), ((3, 0), (15, 1)), ((3, 1), (15, 0)), ((3, 1), (15, 1)),
        ])
        for room in WIDE_ROOMS:
            boxes = list(range(len(room)))[-4:]
            told = check_told(self, contexts, room, boxes)
            self.assertEqual(told, plain_contexts(room, boxes))
            self.assertEqual(told, sorted(told))
        self.assertEqual(len(contexts((2,) * 16, list(range(8)))), 256)

    def test_pairs(self):
        book = (UP, (((1, 0),), 0, 0, 1), (((1, 0), (2, 1)), 0, 2, 0), (((1, 0),), 3, 2, 0), UP)
        self.assertEqual(pairs_at(book, 0, ()), [(0, 1)])
        self.assertEqual(pairs_at(book, 0, ((1, 0), (2, 0))), [(0, 1), (1, 0)])
        self.assertEqual(pairs_at(book, 0, ((1, 0), (2, 1))), [(0, 1), (0, 2), (1, 0)])
        self.assertEqual(pairs_at(book, 0, ((1, 1), (2, 1))), [(0, 1)])
        self.assertEqual(pairs_at(book, 3, ((1, 0),)), [(0, 2)])
        self.assertEqual(pairs_at(book, 3, ((1, 1),)), [])
        self.assertEqual(pairs_at((), 0, ()), [])

    def test_against_the_definition(self):
        for room in ROOMS + WIDE_ROOMS:
            for book in plain_books(room, 2, 200) + (some_books(room, 3, 9, 201) if room in ROOMS else []):
                for box in range(len(room)):
                    boxes = check_told(self, looked_at, book, box)
                    self.assertEqual(boxes, plain_looked(book, box))
                    for context in contexts(room, boxes):
                        self.assertEqual(check_told(self, pairs_at, book, box, context), pairs_in(book, box, context))

    def test_local_pairs_at_each_standing_that_keeps_the_context(self):
        for room in ROOMS:
            for book in plain_books(room, 2, 202) + some_books(room, 3, 9, 203):
                for box in range(len(room)):
                    for context in contexts(room, looked_at(book, box)):
                        for standing in kept(room, context):
                            self.assertEqual(pairs_at(book, box, context), local_pairs(room, book, box, standing))


class Plain(unittest.TestCase):
    def check(self, room, book):
        """What is told is what point 35 says; told is its word."""
        told = check_told(self, plain, room, book)
        looks = looks_of(room, book)
        if plain_order(room, looks) is None:
            self.assertEqual(told[0], "looks")
            self.assertEqual(len(told), 2)
            self.assertTrue(right_round(told[1], looks))
            return "looks"
        rows = [(box, context, pairs_in(book, box, context)) for box in range(len(room))
                for context in plain_contexts(room, plain_looked(book, box))]
        for box, context, pairs in rows:
            if has_round(pairs):
                self.assertEqual(told[:3], ("round", box, context))
                self.assertEqual(len(told), 4)
                self.assertTrue(right_round(told[3], pairs))
                return "round"
        for box, context, pairs in rows:
            if len(tops_of(room[box], pairs)) != 1:
                self.assertEqual(told, ("tops", box, context, tops_of(room[box], pairs)))
                return "tops"
        self.assertIsNone(told)
        return "plain"

    def test_written_out(self):
        self.assertIsNone(plain((2, 2), GOES_WITH))
        self.assertEqual(plain((2, 2), GOES_WITH[:2]), ("tops", 1, ((0, 0),), [0, 1]))
        self.assertEqual(plain((2, 2), ()), ("tops", 0, (), [0, 1]))
        self.assertEqual(plain((2,) * 16, ()), ("tops", 0, (), [0, 1]))
        self.assertEqual(plain((4,) * 16, rising((4,) * 16)[:-1]), ("tops", 15, (), [2, 3]))
        self.assertIsNone(plain((4,) * 16, rising((4,) * 16)))
        word, box, context, worths = plain((2, 2), GOES_WITH + ((((0, 1),), 1, 0, 1),))
        self.assertEqual((word, box, context, sorted(worths)), ("round", 1, ((0, 1),), [0, 1]))
        word, boxes = plain((2, 2), GOES_WITH + ((((1, 0),), 0, 1, 0),))
        self.assertEqual((word, sorted(boxes)), ("looks", [0, 1]))

    def test_a_ring_of_looks(self):
        # Each box looks at the next one, of sixteen.
        room = (2,) * 16
        ring = tuple((((((box + 1) % 16, 0),), box, 1, 0)) for box in range(16))
        word, boxes = plain(room, rising(room) + ring)
        self.assertEqual((word, sorted(boxes)), ("looks", list(range(16))))
        self.assertEqual(boxes[boxes.index(0):] + boxes[:boxes.index(0)], list(range(16)))
        self.assertIsNone(plain(room, rising(room) + ring[:-1]))

    def test_looks_that_nothing_hangs_on_make_a_ring_too(self):
        # Box 0 looks at box 1, though by both of its worths it is the same, and box 1 goes with box 0.
        book = ((((1, 0),), 0, 1, 0), (((1, 1),), 0, 1, 0)) + GOES_WITH[1:]
        self.assertIsNone(settled((2, 2), book))
        self.assertEqual(plain((2, 2), book)[0], "looks")

    def test_a_round_anywhere_goes_ahead_of_tops_anywhere(self):
        room = (2,) * 16
        book = (((), 15, 1, 0), ((), 15, 0, 1))
        self.assertEqual(plain(room, book)[:3], ("round", 15, ()))
        book = ((((3, 1),), 9, 1, 0), (((3, 1),), 9, 0, 1))
        self.assertEqual(plain(room, book)[:3], ("round", 9, ((3, 1),)))
        # And looks ahead of both.
        self.assertEqual(plain(room, book + ((((9, 0),), 3, 0, 1),))[0], "looks")

    def test_the_first_box_and_of_it_the_first_context(self):
        room = (2,) * 12
        book = tuple(wish for wish in rising(room) if wish[1] not in (4, 7))
        fourth, seventh = full_look(room, 4, [1, 11]), full_look(room, 7, [0, 2])
        self.assertIsNone(plain(room, book + fourth + seventh))
        for at in range(4):
            here, there = fourth[:at] + fourth[at + 1:], seventh[:1] + seventh[2:]
            wanted = ("tops", 4, plain_contexts(room, [1, 11])[at], [0, 1])
            # With another box gone wrong as well, and with a later context too.
            self.assertEqual(plain(room, book + there + here), wanted)
            for later in range(at, 3):
                self.assertEqual(plain(room, book + seventh + here[:later] + here[later + 1:]), wanted)
            down = fourth[at][:2] + (0, 1)
            told = plain(room, book + there + fourth + (down, fourth[3][:2] + (0, 1)))
            self.assertEqual(told[:3], ("round", 4, plain_contexts(room, [1, 11])[at]))

    def test_no_top_and_more_tops(self):
        self.assertEqual(plain((3,), (((), 0, 1, 0),)), ("tops", 0, (), [1, 2]))
        self.assertEqual(plain((3,), (((), 0, 1, 0), ((), 0, 1, 2))), None)
        # Without a round there is some top always.
        self.assertEqual(plain((4,), (((), 0, 1, 0), ((), 0, 3, 2))), ("tops", 0, (), [1, 3]))

    def test_against_the_definition(self):
        found = {"looks": 0, "round": 0, "tops": 0, "plain": 0}
        for room in ROOMS:
            books = plain_books(room, 4, 210) + settled_books(room, 3, 211) + some_books(room, 12, 4, 212)
            books += some_books(room, 8, 12, 213) + [book[1:] for book in plain_books(room, 4, 214)]
            for book in books:
                found[self.check(room, book)] += 1
        self.assertGreater(min(found.values()), 15, found)

    def test_wide_rooms(self):
        found = {"looks": 0, "round": 0, "tops": 0, "plain": 0}
        for room in WIDE_ROOMS:
            for book in plain_books(room, 3, 215, 1):
                given, box, better, worse = book[-1]
                last, after = ((given, box, worse, better),), (box + 1) % len(room)
                ring = ((((box, 0),), after, 1, 0), (((after, 0),), box, 1, 0))
                for spoiled in (book, book[:-1], book + last, book + ring[:1], book + ring):
                    found[self.check(room, spoiled)] += 1
        self.assertGreater(min(found.values()), 2, found)

    def test_a_plain_book_is_settled_with_the_same_best_and_has_no_ring(self):
        many = 0
        for room in ROOMS + ((2,) * 8, (4, 4, 4, 4)):
            books = plain_books(room, 4, 216) + settled_books(room, 3, 217)
            for book in [book for book in books if plain(room, book) is None]:
                many += 1
                self.assertIsNone(settled(room, book))
                self.assertEqual(ring_or_worths(room, book)[0], "worths")
                for given in all_givens(room)[::1 if room in ROOMS else 501]:
                    self.assertEqual(wide_best(room, book, given), best(room, book, given))
                    self.assertEqual(bests(room, book, given), [wide_best(room, book, given)])
        self.assertGreater(many, 40)


class Contexts(unittest.TestCase):
    def ask_all(self, room, book):
        zero = (0,) * len(room)
        return [
            (plain, (room, book)), (wide_best, (room, book, ())), (wide_swept, (room, book, zero, ())),
            (wide_swept, (room, book, zero, ((0, 1),))), (first_unlike, (room, book, zero, zero)),
            (first_unlike, (room, book, zero, put(zero, 0, 1))),
        ]

    def test_just_256(self):
        for room, others in (((2,) * 9, list(range(8))), ((4,) * 5, [0, 1, 2, 3]), ((2,) * 16, list(range(2, 10))),
                             ((4, 2, 4, 2, 4, 2, 2), [0, 1, 2, 4, 5])):
            book = looking(room, len(room) - 1, others)
            self.assertEqual(len(contexts(room, others)), 256)
            self.assertIsNone(plain(room, book))
            self.assertEqual(wide_best(room, book, ()), tuple(worths - 1 for worths in room))
            for ask, handed in self.ask_all(room, book):
                if handed[-1] != ((0, 1),):
                    ask(*handed)

    def test_more_than_256(self):
        for room, others in (((2,) * 10, list(range(9))), ((4,) * 6, [0, 1, 2, 3, 4]),
                             ((2, 4, 4, 4, 4, 2), [0, 1, 2, 3, 4]),
                             ((2,) * 16, list(range(15))), ((3,) * 7, list(range(6)))):
            for book in (looking(room, len(room) - 1, others), looking(room, len(room) - 1, others)[1:]):
                for ask, handed in self.ask_all(room, book):
                    self.assertIs(type(refusal(self, ask, *handed)), TooMany)

    def test_ahead_of_all_else(self):
        # A ring of looks, a round, tops that aren't one, a given that isn't kept.
        room = (2,) * 10
        wide = looking(room, 9, list(range(9)))
        for book in (wide + ((((9, 0),), 0, 1, 0),), wide + (((), 0, 0, 1),), wide[3:], wide[-9:]):
            for ask, handed in self.ask_all(room, book):
                self.assertIs(type(refusal(self, ask, *handed)), TooMany)

    def test_the_looks_of_one_box_alone_count(self):
        room = (2,) * 16
        book = rising(room) + tuple((((other, 0),), 12, 1, 0) for other in range(6))
        book += tuple((((other, 0),), 13, 1, 0) for other in range(6, 12))
        self.assertIsNone(plain(room, book))


class Best(unittest.TestCase):
    def test_written_out(self):
        self.assertEqual(wide_best((2, 2), GOES_WITH, ()), (1, 1))
        self.assertEqual(wide_best((2, 2), GOES_WITH, ((0, 0),)), (0, 0))
        self.assertEqual(wide_best((2, 2), GOES_WITH, ((1, 0),)), (1, 0))
        room = (4,) * 16
        self.assertEqual(wide_best(room, rising(room), ((3, 1), (15, 0))), (3,) * 3 + (1,) + (3,) * 11 + (0,))
        # Each box goes with the next one, from the last on.
        room = (2,) * 16
        chain = tuple((((box + 1, worth),), box, worth, 1 - worth) for box in range(15) for worth in (0, 1))
        chain += (((), 15, 1, 0),)
        self.assertEqual(wide_best(room, chain, ()), (1,) * 16)
        self.assertEqual(wide_best(room, chain, ((15, 0),)), (0,) * 16)
        self.assertEqual(wide_best(room, chain, ((7, 0),)), (0,) * 8 + (1,) * 8)

    def test_the_only_one_in_rooms_of_a_thousand_standings(self):
        for room in ((2,) * 10, (4, 4, 4, 4, 4), (3, 2, 3, 2, 3, 2, 3)):
            for book in plain_books(room, 2, 220):
                for given in ((), ((1, 0),), ((0, 1), (len(room) - 1, 1))):
                    held = tuple(box for box, worth in given)
                    only = [standing for standing in kept(room, given) if not betterings(room, book, standing, held)]
                    self.assertEqual([check_told(self, wide_best, room, book, given)], only)

    def test_wide_rooms(self):
        for room in WIDE_ROOMS:
            for book in plain_books(room, 3, 221, 1):
                for given in ((), ((0, 1),), ((2, 0), (4, 1)), tuple(enumerate((1,) * len(room)))):
                    top = wide_best(room, book, given)
                    self.assertTrue(is_kept(top, given))
                    self.assertEqual(betterings(room, book, top, tuple(box for box, worth in given)), [])


class Swept(unittest.TestCase):
    def check(self, room, book, standing, given):
        boxes = plain_order(room, looks_of(room, book))
        way = wide_swept(room, book, standing, given)
        self.assertIs(type(way), list)
        self.assertEqual((way[0], way[-1]), (standing, wide_best(room, book, given)))
        steps = list(zip(way, way[1:]))
        for here, there in steps:
            self.assertIsNotNone(why(book, here, there))
        at = [unlike_at(here, there)[0] for here, there in steps]
        self.assertFalse(set(at) & {box for box, worth in given})
        self.assertEqual(at, sorted(at, key=boxes.index))
        for box in set(at):
            here = way[at.index(box)]
            self.assertEqual(at.count(box), self.fewest(room, book, box, here, way[-1][box]))
        self.assertLessEqual(len(at), sum(room) - len(room))

    def fewest(self, room, book, box, standing, worth):
        """By how many local steps the box comes to the worth, at the least."""
        pairs, come, many = local_pairs(room, book, box, standing), {standing[box]}, 0
        while worth not in come:
            come |= {better for worse, better in pairs if worse in come}
            many += 1
        return many

    def test_written_out(self):
        self.assertEqual(wide_swept((2, 2), GOES_WITH, (0, 0), ()), [(0, 0), (1, 0), (1, 1)])
        self.assertEqual(wide_swept((2, 2), GOES_WITH, (0, 1), ((0, 0),)), [(0, 1), (0, 0)])
        self.assertEqual(wide_swept((2, 2), GOES_WITH, (1, 1), ()), [(1, 1)])
        room = (4,) * 16
        way = wide_swept(room, rising(room), (0,) * 16, ())
        self.assertEqual(len(way), 49)
        book = rising(room) + tuple(((), box, 3, 0) for box in range(16))
        self.assertEqual(len(wide_swept(room, book, (0,) * 16, ())), 17)
        self.assertEqual(len(wide_swept(room, book, (0,) * 16, ((1, 0), (2, 0)))), 15)

    def test_against_the_definition(self):
        for room in ROOMS:
            for book in plain_books(room, 3, 230):
                for given in all_givens(room):
                    for standing in kept(room, given):
                        self.check(room, book, standing, given)

    def test_wide_rooms(self):
        for room in WIDE_ROOMS:
            for book in plain_books(room, 3, 231, 1):
                for given in ((), ((0, 1),), ((2, 0), (4, 1)), tuple(enumerate((1,) * len(room)))):
                    for worth in (0, 1):
                        standing = tuple(dict(given).get(box, worth) for box in range(len(room)))
                        self.check(room, book, standing, given)
                        check_told(self, wide_swept, room, book, standing, given)


class FirstUnlike(unittest.TestCase):
    def wanted(self, room, book, one, other):
        """What point 36 says."""
        if one == other:
            return ("same",)
        boxes = plain_order(room, looks_of(room, book))
        box = [box for box in boxes if one[box] != other[box]][0]
        pairs = pairs_in(book, box, [(at, one[at]) for at in plain_looked(book, box)])
        come = {better for worse, better in pairs if worse == one[box]}
        for _ in range(4):
            come |= {better for worse, better in pairs if worse in come}
        return ("open",) if other[box] in come else ("first", box)

    def test_written_out(self):
        self.assertEqual(first_unlike((2, 2), GOES_WITH, (0, 0), (0, 0)), ("same",))
        self.assertEqual(first_unlike((2, 2), GOES_WITH, (0, 0), (1, 1)), ("open",))
        self.assertEqual(first_unlike((2, 2), GOES_WITH, (1, 1), (0, 0)), ("first", 0))
        self.assertEqual(first_unlike((2, 2), GOES_WITH, (0, 0), (0, 1)), ("first", 1))
        self.assertEqual(first_unlike((2, 2), GOES_WITH, (0, 1), (0, 0)), ("open",))
        self.assertEqual(first_unlike((2, 2), GOES_WITH, (1, 0), (1, 1)), ("open",))
        # Open is only told of the first box; other may be no better.
        self.assertEqual(first_unlike((2, 2), GOES_WITH, (0, 0), (1, 0)), ("open",))

    def test_by_the_order_of_looks(self):
        # Box 0 goes with box 1, so box 1 comes first.
        book = (((), 1, 1, 0), (((1, 1),), 0, 1, 0), (((1, 0),), 0, 0, 1))
        self.assertEqual(first_unlike((2, 2), book, (1, 0), (0, 1)), ("open",))
        self.assertEqual(first_unlike((2, 2), book, (0, 1), (1, 0)), ("first", 1))
        self.assertEqual(first_unlike((2, 2), book, (0, 1), (1, 1)), ("open",))
        self.assertEqual(first_unlike((2, 2), book, (1, 1), (0, 1)), ("first", 0))
        # Where neither looks at the other the least comes first.
        self.assertEqual(first_unlike((2, 2), rising((2, 2)), (0, 1), (1, 0)), ("open",))
        self.assertEqual(first_unlike((2, 2), rising((2, 2)), (1, 0), (0, 1)), ("first", 0))

    def test_in_more_than_one_step(self):
        chain = (((), 0, 1, 0), ((), 0, 2, 1), ((), 0, 3, 2))
        self.assertEqual(first_unlike((4,), chain, (0,), (3,)), ("open",))
        self.assertEqual(first_unlike((4,), chain, (3,), (0,)), ("first", 0))
        fork = (((), 0, 3, 0), ((), 0, 3, 1), ((), 0, 3, 2))
        self.assertEqual(first_unlike((4,), fork, (0,), (1,)), ("first", 0))
        self.assertEqual(first_unlike((4,), fork, (1,), (0,)), ("first", 0))

    def test_against_the_definition(self):
        found = {}
        for room in ROOMS:
            for book in plain_books(room, 3, 240):
                better = plain_better(plain_steps(room, book))
                for one, other in itertools.product(all_standings(room), repeat=2):
                    told = first_unlike(room, book, one, other)
                    self.assertEqual(told, self.wanted(room, book, one, other))
                    found[told[0]] = found.get(told[0], 0) + 1
                    if told[0] in ("first", "same"):
                        self.assertNotIn(other, better[one])
                    if other in better[one]:
                        self.assertEqual(told, ("open",))
                        self.assertEqual(first_unlike(room, book, other, one)[0], "first")
        self.assertEqual(sorted(found), ["first", "open", "same"])

    def test_wide_rooms(self):
        for room in WIDE_ROOMS:
            zero, top = (0,) * len(room), tuple(worths - 1 for worths in room)
            some = [zero, top, put(zero, 3, 1), put(top, 4, 0), put(put(zero, 1, 1), 2, 1)]
            for book in plain_books(room, 3, 241, 1):
                for one, other in itertools.product(some, repeat=2):
                    told = check_told(self, first_unlike, room, book, one, other)
                    self.assertEqual(told, self.wanted(room, book, one, other))
                for one in some:
                    way = wide_swept(room, book, one, ())
                    for here, there in list(zip(way, way[1:]))[::3] + [(way[0], way[-1])] * (len(way) > 1):
                        self.assertEqual(first_unlike(room, book, here, there), ("open",))
                        self.assertEqual(first_unlike(room, book, there, here)[0], "first")


class Refused(unittest.TestCase):
    def check_why(self, room, book, ask, *more):
        error = refusal(self, ask, room, book, *more)
        self.assertIs(type(error), NotSettled)
        wanted = plain(room, book)
        self.assertEqual(error.why, wanted)
        self.assertTrue(is_plain(error.why))
        spoil(error.why)
        self.assertEqual(plain(room, book), wanted)

    def test_each_reason(self):
        for room in ROOMS + WIDE_ROOMS:
            zero, one = (0,) * len(room), (1,) * len(room)
            books = [(), rising(room) + (DOWN,), rising(room)[:-1]]
            books += [rising(room) + ((((1, 0),), 0, 1, 0), (((0, 0),), 1, 1, 0))] if len(room) > 1 else []
            for book in books:
                self.check_why(room, book, wide_best, ())
                self.check_why(room, book, wide_best, tuple(enumerate(zero)))
                self.check_why(room, book, wide_swept, zero, ())
                # Ahead of what isn't kept.
                self.check_why(room, book, wide_swept, zero, ((0, 1),))
                self.check_why(room, book, first_unlike, zero, one)
                self.check_why(room, book, first_unlike, zero, zero)

    def test_the_reason_is_that_of_plain_not_that_of_settled(self):
        book = ((((1, 0),), 0, 1, 0), (((1, 1),), 0, 1, 0)) + GOES_WITH[1:]
        self.assertEqual(best((2, 2), book, ()), (1, 1))
        self.check_why((2, 2), book, wide_best, ())
        self.assertEqual(refusal(self, wide_best, (2, 2), (), ()).why, ("tops", 0, (), [0, 1]))
        self.assertEqual(refusal(self, best, (2, 2), (), ()).why, ("tops", (0, 0), 0, [0, 1]))

    def test_not_kept(self):
        for room in ROOMS:
            for book in plain_books(room, 2, 250):
                for given in all_givens(room):
                    for standing in all_standings(room):
                        if not is_kept(standing, given):
                            error = refusal(self, wide_swept, room, book, standing, given)
                            self.assertIs(type(error), NotKept)
        for room in WIDE_ROOMS:
            error = refusal(self, wide_swept, room, rising(room), (0,) * len(room), ((len(room) - 1, 1),))
            self.assertIs(type(error), NotKept)


if __name__ == "__main__":
    unittest.main()
