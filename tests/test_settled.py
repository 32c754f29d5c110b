"""Local rounds, tops, settled books and what stands against one, and that without rounds there is no ring."""

import itertools
import unittest

from allelse.hangs import order
from allelse.rings import ring_or_worths
from allelse.settled import local_round, settled, tops
from support import (
    all_standings, check_told, has_round, plain_hangs, plain_order, plain_pairs, plain_steps, right_round,
    rising, settled_books, some_books,
)

ROOMS = ((2,), (3,), (4,), (2, 2), (3, 2), (2, 4), (2, 2, 2), (2, 2, 2, 2))
GREAT_ROOMS = ((2,) * 8, (4, 4, 4, 4))
UP = ((), 0, 1, 0)
DOWN = ((), 0, 0, 1)


def books(room):
    told = some_books(room, 12, 3, 30) + some_books(room, 10, 8, 31) + some_books(room, 2, 30, 32)
    for book in settled_books(room, 8, 33):
        told += [book, book[1:], book[:-2] + book[-1:], book[::-1] + some_books(room, 1, 1, 34)[0]]
    return told


def plain_tops(worths, pairs):
    return [worth for worth in range(worths) if worth not in [worse for worse, better in pairs]]


class LocalRound(unittest.TestCase):
    def test_written_out(self):
        self.assertIsNone(local_round((2,), (), 0, (0,)))
        self.assertIsNone(local_round((2,), (UP,), 0, (0,)))
        self.assertIn(local_round((2,), (UP, DOWN), 0, (0,)), ([0, 1], [1, 0]))
        self.assertIn(local_round((2,), (UP, DOWN), 0, (1,)), ([0, 1], [1, 0]))
        book = (((), 0, 1, 0), ((), 0, 2, 1), ((), 0, 0, 2))
        self.assertIn(local_round((3,), book, 0, (0,)), ([0, 1, 2], [1, 2, 0], [2, 0, 1]))
        self.assertIsNone(local_round((3,), book[:2], 0, (0,)))
        self.assertIn(local_round((4,), book, 0, (3,)), ([0, 1, 2], [1, 2, 0], [2, 0, 1]))

    def test_all_rows_of_worths_going_round(self):
        for many in (2, 3, 4):
            for row in itertools.permutations(range(4), many):
                book = tuple(((), 0, row[(at + 1) % many], worth) for at, worth in enumerate(row))
                pairs = [(worse, better) for given, box, better, worse in book]
                told = local_round((4,), book, 0, (0,))
                self.assertEqual(sorted(told), sorted(row))
                self.assertTrue(right_round(told, pairs), told)
                self.assertIsNone(local_round((4,), book[1:], 0, (0,)))

    def test_where_the_given_is_kept_alone(self):
        book = (UP, (((1, 1),), 0, 0, 1))
        self.assertIsNone(local_round((2, 2), book, 0, (0, 0)))
        self.assertIsNone(local_round((2, 2), book, 0, (1, 0)))
        self.assertIn(local_round((2, 2), book, 0, (0, 1)), ([0, 1], [1, 0]))
        self.assertIn(local_round((2, 2), book, 0, (1, 1)), ([0, 1], [1, 0]))
        self.assertIsNone(local_round((2, 2), book, 1, (0, 1)))

    def test_ways_into_a_round_and_out_of_it_are_no_part(self):
        book = (((), 0, 1, 0), ((), 0, 2, 1), ((), 0, 1, 2), ((), 0, 3, 2))
        self.assertIn(local_round((4,), book, 0, (0,)), ([1, 2], [2, 1]))

    def test_against_the_definition(self):
        found = {True: 0, False: 0}
        for room in ROOMS:
            for book in books(room):
                pairs = plain_pairs(room, plain_steps(room, book))
                for standing, box in itertools.product(pairs, range(len(room))):
                    here = pairs[standing][box]
                    told = local_round(room, book, box, standing)
                    found[told is None] += 1
                    if has_round(here):
                        self.assertTrue(right_round(told, here), told)
                        self.assertEqual([type(worth) for worth in told], [int] * len(told))
                    else:
                        self.assertIsNone(told)
        self.assertGreater(min(found.values()), 100)

    def test_told_anew(self):
        check_told(self, local_round, (2, 2), (UP, DOWN), 0, (0, 1))
        check_told(self, local_round, (2, 2), (UP,), 0, (0, 1))

    def test_great_rooms(self):
        for room in GREAT_ROOMS:
            last = len(room) - 1
            given = tuple((box, worths - 1) for box, worths in enumerate(room[:-1]))
            book = rising(room) + ((given, last, 0, 1),)
            top = tuple(worths - 1 for worths in room)
            self.assertEqual(sorted(check_told(self, local_round, room, book, last, top)), [0, 1])
            self.assertIsNone(local_round(room, book, last, (0,) + top[1:]))


class Tops(unittest.TestCase):
    def test_written_out(self):
        self.assertEqual(tops((2,), (), 0, (0,)), [0, 1])
        self.assertEqual(tops((2,), (UP,), 0, (0,)), [1])
        self.assertEqual(tops((2,), (DOWN,), 0, (0,)), [0])
        self.assertEqual(tops((2,), (UP, DOWN), 0, (1,)), [])
        self.assertEqual(tops((4,), (((), 0, 2, 1),), 0, (0,)), [0, 2, 3])
        self.assertEqual(tops((4,), (((), 0, 2, 1), ((), 0, 1, 0), ((), 0, 0, 3)), 0, (0,)), [2])
        self.assertEqual(tops((2, 3), ((((0, 1),), 1, 0, 2),), 1, (0, 0)), [0, 1, 2])
        self.assertEqual(tops((2, 3), ((((0, 1),), 1, 0, 2),), 1, (1, 2)), [0, 1])

    def test_wishes_alike(self):
        self.assertEqual(tops((3,), (UP,) * 4, 0, (0,)), [1, 2])

    def test_against_the_definition(self):
        for room in ROOMS:
            for book in books(room):
                pairs = plain_pairs(room, plain_steps(room, book))
                for standing, box in itertools.product(pairs, range(len(room))):
                    wanted = plain_tops(room[box], pairs[standing][box])
                    self.assertEqual(tops(room, book, box, standing), wanted)

    def test_told_anew(self):
        for book in ((), (UP,), (UP, DOWN)):
            check_told(self, tops, (3, 2), book, 0, (0, 1))

    def test_great_rooms(self):
        for room in GREAT_ROOMS:
            for standing in all_standings(room)[::17]:
                for box, worths in enumerate(room):
                    self.assertEqual(tops(room, rising(room), box, standing), [worths - 1])
                    self.assertEqual(tops(room, (), box, standing), list(range(worths)))


class Settled(unittest.TestCase):
    def test_written_out(self):
        self.assertIsNone(settled((2,), (UP,)))
        self.assertIsNone(settled((2,), (DOWN,)))
        self.assertIsNone(settled((2, 2), (UP, (((0, 0),), 1, 0, 1), (((0, 1),), 1, 1, 0))))
        self.assertIsNone(settled((4,), (((), 0, 1, 0), ((), 0, 1, 2), ((), 0, 1, 3))))
        self.assertIsNone(settled((2,), (UP, UP, UP)))

    def test_without_wishes(self):
        for room in ROOMS + GREAT_ROOMS:
            wanted = ("tops", (0,) * len(room), 0, list(range(room[0])))
            self.assertEqual(check_told(self, settled, room, ()), wanted)

    def test_hanging_in_a_ring(self):
        ring = ((((1, 0),), 0, 1, 0), (((1, 1),), 0, 0, 1), (((0, 0),), 1, 1, 0), (((0, 1),), 1, 0, 1))
        word, boxes = settled((2, 2), ring)
        self.assertEqual((word, sorted(boxes)), ("hangs", [0, 1]))
        self.assertIn(settled((2, 2), ring), (("hangs", [0, 1]), ("hangs", [1, 0])))

    def test_told_of_in_a_ring_and_yet_settled(self):
        both = ((((1, 0),), 0, 1, 0), (((1, 1),), 0, 1, 0), (((0, 0),), 1, 1, 0), (((0, 1),), 1, 0, 1))
        self.assertIsNone(settled((2, 2), both))

    def test_hanging_goes_ahead_of_a_round_and_of_tops(self):
        book = (((), 0, 1, 0), ((), 0, 0, 1), (((2, 1),), 1, 1, 0), (((1, 1),), 2, 1, 0))
        self.assertEqual((settled((2, 2, 2), book)[0], sorted(settled((2, 2, 2), book)[1])), ("hangs", [1, 2]))
        self.assertEqual(settled((2, 2, 2), book[:3])[:3], ("round", (0, 0, 0), 0))

    def test_a_round(self):
        self.assertIn(settled((2,), (UP, DOWN)), (("round", (0,), 0, [0, 1]), ("round", (0,), 0, [1, 0])))
        word, standing, box, worths = settled((2, 4), (UP, ((), 1, 0, 1), ((), 1, 1, 0), ((), 1, 3, 2)))
        self.assertEqual((word, standing, box, sorted(worths)), ("round", (0, 0), 1, [0, 1]))

    def test_the_first_standing_and_of_it_the_first_box(self):
        # Box 1 goes round wherever box 0 has 0, and wherever it has 1.
        book = ((((0, 0),), 1, 1, 0), (((0, 0),), 1, 0, 1), (((0, 1),), 1, 1, 0), (((0, 1),), 1, 0, 1))
        self.assertEqual(settled((2, 2), book)[:3], ("round", (0, 0), 1))
        self.assertEqual(settled((2, 2), book + (UP, DOWN))[:3], ("round", (0, 0), 0))
        self.assertEqual(settled((2, 2), book[1:] + (UP,))[:3], ("round", (1, 0), 1))
        self.assertEqual(settled((2, 2), (UP,) + book[:1]), ("tops", (1, 0), 1, [0, 1]))
        self.assertEqual(settled((2, 2), book[:1]), ("tops", (0, 0), 0, [0, 1]))
        book = ((((1, 0),), 0, 1, 0), ((), 1, 1, 0))
        self.assertEqual(settled((2, 2), book), ("tops", (0, 1), 0, [0, 1]))
        book = ((((1, 0),), 0, 1, 0), (((1, 1),), 0, 1, 0), (((1, 1),), 0, 0, 1), ((), 1, 1, 0))
        word, standing, box, worths = settled((2, 2), book)
        self.assertEqual((word, standing, box, sorted(worths)), ("round", (0, 1), 0, [0, 1]))

    def test_a_round_anywhere_goes_ahead_of_tops_anywhere(self):
        # Of box 0 no worth is better than another one; of box 1 there is a round at the last standings alone.
        book = ((((0, 1),), 1, 1, 0), (((0, 1),), 1, 0, 1))
        word, standing, box, worths = settled((2, 2), book)
        self.assertEqual((word, standing, box, sorted(worths)), ("round", (1, 0), 1, [0, 1]))
        # A round beside a top.
        book = (((), 0, 1, 0), ((), 0, 0, 1), ((), 0, 2, 1))
        word, standing, box, worths = settled((3,), book)
        self.assertEqual((word, standing, box, sorted(worths)), ("round", (0,), 0, [0, 1]))

    def test_tops(self):
        self.assertEqual(settled((3,), (UP,)), ("tops", (0,), 0, [1, 2]))
        self.assertEqual(settled((2, 3), (UP, ((), 1, 2, 0), ((), 1, 1, 0))), ("tops", (0, 0), 1, [1, 2]))
        self.assertEqual(settled((2, 2), (UP, (((0, 0),), 1, 1, 0))), ("tops", (1, 0), 1, [0, 1]))

    def test_against_the_definition(self):
        found = {None: 0, "hangs": 0, "round": 0, "tops": 0}
        for room in ROOMS:
            for book in books(room):
                told = check_told(self, settled, room, book)
                found[None if told is None else told[0]] += 1
                self.check(room, book, told)
        self.assertGreater(min(found.values()), 15, found)

    def check(self, room, book, told):
        pairs = plain_pairs(room, plain_steps(room, book))
        hanging = plain_hangs(room, pairs)
        places = list(itertools.product(sorted(pairs), range(len(room))))
        rounds = [(standing, box) for standing, box in places if has_round(pairs[standing][box])]
        wrong = [(standing, box) for standing, box in places if len(plain_tops(room[box], pairs[standing][box])) != 1]
        if plain_order(room, hanging) is None:
            self.assertEqual((told[0], len(told)), ("hangs", 2))
            self.assertTrue(right_round(told[1], hanging), told)
        elif rounds:
            self.assertEqual((told[0], told[1], told[2], len(told)), ("round", *rounds[0], 4))
            standing, box = rounds[0]
            self.assertTrue(right_round(told[3], pairs[standing][box]), told)
        elif wrong:
            standing, box = wrong[0]
            self.assertEqual(told, ("tops", standing, box, plain_tops(room[box], pairs[standing][box])))
        else:
            self.assertIsNone(told)

    def test_books_made_settled(self):
        for room in ROOMS:
            for book in settled_books(room, 8, 35):
                self.assertIsNone(settled(room, book))

    def test_great_rooms(self):
        for room in GREAT_ROOMS:
            self.assertIsNone(settled(room, rising(room)))
            for book in settled_books(room, 3, 36):
                self.assertIsNone(settled(room, book))
            last = len(room) - 1
            given = tuple((box, worths - 1) for box, worths in enumerate(room[:-1]))
            word, standing, box, worths = check_told(self, settled, room, rising(room) + ((given, last, 0, 1),))
            self.assertEqual((word, box, sorted(worths)), ("round", last, [0, 1]))
            self.assertEqual(standing, tuple(worths - 1 for worths in room[:-1]) + (0,))
            book = rising(room[:-1]) + tuple(
                (given[:-1] + ((last - 1, worth),), last, at + 1, at)
                for worth in range(room[last - 1]) for at in range(room[last] - 1)
            )
            standing = (0,) * (last + 1)
            wanted = ("tops", standing, last, list(range(room[last])))
            self.assertEqual(check_told(self, settled, room, book), wanted)


class NoRounds(unittest.TestCase):
    def test_no_ring_of_betterings(self):
        many = 0
        for room in ROOMS:
            for book in books(room) + some_books(room, 20, 2, 37):
                pairs = plain_pairs(room, plain_steps(room, book))
                free = not [None for row in pairs.values() for here in row if has_round(here)]
                if free and order(room, book)[0] == "order":
                    many += 1
                    self.assertEqual(ring_or_worths(room, book)[0], "worths")
        self.assertGreater(many, 100)


if __name__ == "__main__":
    unittest.main()
