"""Books alike, and the first pair that parts two books."""

import itertools
import unittest

from allelse.alike import parted
from allelse.errors import TooMany
from allelse.sets import lets_shut
from allelse.ways import lets_way
from support import (
    all_rooms, check_told, first_parting, full_given, odd_things, refusal, row_book, settled_books, snake, some_books,
)

ROOMS = ((2,), (3,), (2, 2), (3, 2), (2, 4), (2, 2, 2), (4, 4))
SMALL_ROOMS = ((2,) * 6, (4, 4, 4), (2, 4, 2, 4))
GREAT_ROOMS = ((2,) * 7, (3, 3, 3, 3), (4, 4, 4, 2), (2,) * 8, (4, 4, 4, 4))
UP = ((), 0, 1, 0)
DOWN = ((), 0, 0, 1)


def pairs_of_books(room):
    """Pairs of books, some far from one another, some near by."""
    told = list(zip(some_books(room, 6, 4, 60), some_books(room, 6, 6, 61)))
    for book in some_books(room, 8, 7, 62) + settled_books(room, 3, 63):
        told += [(book, book[1:]), (book[:-1], book), (book, book[::-1]), (book + book, book)]
    return told


class Parted(unittest.TestCase):
    def test_written_out(self):
        book = (UP, (((0, 1),), 1, 1, 0))
        self.assertIsNone(parted((2, 2), book, book))
        self.assertIsNone(parted((2, 2), book, book[::-1]))
        wanted = ("parts", 0, (0, 0), (1, 1), [(0, 0), (1, 0), (1, 1)], [(0, 0), (1, 0)])
        self.assertEqual(parted((2, 2), book, (UP,)), wanted)
        wanted = ("parts", 1, (0, 0), (1, 1), [(0, 0), (1, 0), (1, 1)], [(0, 0), (1, 0)])
        self.assertEqual(parted((2, 2), (UP,), book), wanted)

    def test_the_first_pair_whichever_book_it_is_better_by(self):
        first, second = ((((0, 1),), 1, 1, 0),), ((((0, 0),), 1, 1, 0),)
        wanted = ("parts", 1, (0, 0), (0, 1), [(0, 0), (0, 1)], [(0, 0)])
        self.assertEqual(parted((2, 2), first, second), wanted)
        wanted = ("parts", 0, (0, 0), (0, 1), [(0, 0), (0, 1)], [(0, 0)])
        self.assertEqual(parted((2, 2), second, first), wanted)
        wanted = ("parts", 1, (0,), (1,), [(0,), (1,)], [(0,), (2,)])
        self.assertEqual(parted((3,), (((), 0, 2, 0),), (UP,)), wanted)

    def test_other_steps_and_yet_alike(self):
        chain = (((), 0, 1, 0), ((), 0, 2, 1))
        self.assertIsNone(parted((3,), chain, chain + (((), 0, 2, 0),)))
        self.assertIsNone(parted((3,), chain + (((), 0, 2, 0),), chain))
        self.assertIsNone(parted((2, 2), ((((1, 0),), 0, 1, 0), (((1, 1),), 0, 1, 0)), (UP,)))
        ring = ((), 0, 0, 2)
        turned = (((), 0, 2, 0), ((), 0, 1, 2), ((), 0, 0, 1))
        self.assertIsNone(parted((3,), chain + (ring,), turned))

    def test_the_way_is_the_shortest_and_the_least(self):
        # Up to the last step both books are the same, so the pair has many ways by the first one.
        low = [(0, 0, 0), (0, 0, 1), (0, 1, 0), (0, 1, 1), (1, 0, 0), (1, 0, 1), (1, 1, 0)]
        steps = [(one, (full_given(one, box), box, 1, 0)) for one in low for box in range(3) if one[box] == 0]
        book = tuple(wish for one, wish in steps)
        second = tuple(wish for one, wish in steps if sum(one) < 2)
        way = [(0, 0, 0), (0, 0, 1), (0, 1, 1), (1, 1, 1)]
        self.assertEqual(parted((2, 2, 2), book, second), ("parts", 0, (0, 0, 0), (1, 1, 1), way, low))
        self.assertEqual(parted((2, 2, 2), second, book), ("parts", 1, (0, 0, 0), (1, 1, 1), way, low))

    def test_a_pair_of_one_standing_twice(self):
        wanted = ("parts", 0, (0,), (0,), [(0,), (1,), (0,)], [(0,), (1,)])
        self.assertEqual(check_told(self, parted, (2,), (UP, DOWN), (UP,)), wanted)
        wanted = ("parts", 1, (0,), (0,), [(0,), (1,), (0,)], [(0,), (1,)])
        self.assertEqual(check_told(self, parted, (2,), (UP,), (UP, DOWN)), wanted)
        wanted = ("parts", 1, (0, 0), (0, 0), [(0, 0), (1, 0), (0, 0)], [(0, 0)])
        self.assertEqual(parted((2, 2), (), (UP, DOWN)), wanted)

    def test_without_wishes(self):
        for room in ROOMS + SMALL_ROOMS:
            zero = (0,) * len(room)
            self.assertIsNone(parted(room, (), ()))
            other = (1,) + zero[1:]
            self.assertEqual(parted(room, (UP,), ()), ("parts", 0, zero, other, [zero, other], [zero]))
            self.assertEqual(parted(room, (), (UP,)), ("parts", 1, zero, other, [zero, other], [zero]))

    def test_against_the_definition(self):
        found = {None: 0, 0: 0, 1: 0, "twice": 0}
        for room in ROOMS:
            for book, second in pairs_of_books(room):
                wanted = first_parting(room, book, second)
                told = check_told(self, parted, room, book, second)
                self.assertEqual(told, wanted)
                if told is not None:
                    word, which, one, other, way, shut = told
                    books = (book, second)
                    self.assertEqual((type(which), type(way), type(shut)), (int, list, list))
                    self.assertIs(lets_way(room, books[which], one, other, way), True)
                    self.assertIs(lets_shut(room, books[1 - which], one, other, shut), True)
                    found["twice"] += one == other
                found[None if told is None else told[1]] += 1
        self.assertGreater(min(found.values()), 10, found)

    def test_rooms_of_sixty_four(self):
        for room in SMALL_ROOMS:
            row = snake(room)
            book = row_book(row)
            self.assertIsNone(parted(room, book, book[::-1] + book))
            told = check_told(self, parted, room, book, book[:-1])
            self.assertEqual(told, ("parts", 0, row[0], row[-1], row, sorted(row[:-1])))
            told = check_told(self, parted, room, book, row_book(row + row[:1]))
            self.assertEqual(told, ("parts", 1, row[0], row[0], row + row[:1], sorted(row)))

    def test_long_books(self):
        room = (2, 2)
        book = (UP, (((0, 1),), 1, 1, 0)) * 300
        self.assertIsNone(parted(room, book, book[:2]))
        self.assertEqual(parted(room, book, (UP,) * 600)[:4], ("parts", 0, (0, 0), (1, 1)))


class Refused(unittest.TestCase):
    def test_rooms_that_are_not_small(self):
        for room in GREAT_ROOMS:
            for book, second in itertools.product(((), (UP,), (UP, DOWN)), repeat=2):
                self.assertIs(type(refusal(self, parted, room, book, second)), TooMany)

    def test_whatever_else_is_handed_in(self):
        for thing in odd_things():
            self.assertIs(type(refusal(self, parted, (2,) * 7, thing, thing)), TooMany)
            self.assertIs(type(refusal(self, parted, (2,) * 7, (), thing)), TooMany)
            self.assertIs(type(refusal(self, parted, (2,) * 7, thing, ())), TooMany)

    def test_just_where_it_is_due(self):
        for room in all_rooms():
            size = 1
            for worths in room:
                size *= worths
            if size > 64:
                self.assertIs(type(refusal(self, parted, room, (), ())), TooMany)
            else:
                self.assertIsNone(parted(room, (), ()))


if __name__ == "__main__":
    unittest.main()
