"""The bests of any book, settled or not."""

import unittest

from allelse.bests import bests
from support import (
    all_givens, all_standings, check_told, kept, not_held, plain_steps, row_book, settled_books, snake, some_books,
)

ROOMS = ((2,), (4,), (2, 2), (3, 2), (2, 4), (2, 2, 2), (2, 2, 2, 2))
GREAT_ROOMS = ((2,) * 8, (4, 4, 4, 4))
UP = ((), 0, 1, 0)
DOWN = ((), 0, 0, 1)


def books(room):
    told = some_books(room, 8, 3, 40) + some_books(room, 5, 9, 41) + some_books(room, 2, 30, 42)
    return told + settled_books(room, 5, 43)


class Bests(unittest.TestCase):
    def test_written_out(self):
        book = (UP, (((0, 1),), 1, 1, 0), (((0, 0),), 1, 0, 1))
        self.assertEqual(bests((2, 2), book, ()), [(1, 1)])
        self.assertEqual(bests((2, 2), book, ((0, 0),)), [(0, 0)])
        self.assertEqual(bests((2, 2), book, ((1, 0),)), [(1, 0)])
        self.assertEqual(bests((2, 2), book, ((0, 0), (1, 1))), [(0, 1)])

    def test_books_that_are_not_settled(self):
        self.assertEqual(bests((2, 2), (UP,), ()), [(1, 0), (1, 1)])
        self.assertEqual(bests((2, 2), (UP, DOWN), ()), [])
        self.assertEqual(bests((2, 2), (UP, DOWN), ((0, 1),)), [(1, 0), (1, 1)])
        self.assertEqual(bests((2, 2), (UP, DOWN), ((1, 1),)), [])
        both = ((((1, 1),), 0, 1, 0), (((1, 0),), 0, 0, 1), (((0, 1),), 1, 1, 0), (((0, 0),), 1, 0, 1))
        self.assertEqual(bests((2, 2), both, ()), [(0, 0), (1, 1)])
        self.assertEqual(bests((2, 2), both, ((1, 0),)), [(0, 0)])

    def test_without_wishes(self):
        for room in ROOMS:
            for given in all_givens(room):
                self.assertEqual(bests(room, (), given), kept(room, given))

    def test_a_given_of_all_boxes(self):
        for room in ROOMS:
            for book in books(room):
                for standing in all_standings(room):
                    self.assertEqual(bests(room, book, tuple(enumerate(standing))), [standing])

    def test_against_the_definition(self):
        found = {}
        for room in ROOMS:
            for book in books(room):
                leads = plain_steps(room, book)
                for given in all_givens(room):
                    steps = not_held(leads, [box for box, worth in given])
                    wanted = [standing for standing in kept(room, given) if not steps[standing]]
                    told = bests(room, book, given)
                    self.assertEqual(told, wanted)
                    found[len(told)] = found.get(len(told), 0) + 1
        self.assertGreater(min(found[many] for many in range(5)), 5, found)

    def test_told_anew(self):
        for book in ((), (UP,), (UP, DOWN)):
            for given in all_givens((3, 2)):
                check_told(self, bests, (3, 2), book, given)

    def test_great_rooms(self):
        for room in GREAT_ROOMS:
            row = snake(room)
            self.assertEqual(check_told(self, bests, room, row_book(row), ()), [row[-1]])
            self.assertEqual(bests(room, row_book(row + row[:1]), ()), [])
            self.assertEqual(check_told(self, bests, room, (), ()), all_standings(room))
            book = tuple(((), box, 1, 0) for box in range(len(room)))
            wanted = [standing for standing in all_standings(room) if standing[0] == 0 and 0 not in standing[1:]]
            self.assertEqual(bests(room, book, ((0, 0),)), wanted)


if __name__ == "__main__":
    unittest.main()
