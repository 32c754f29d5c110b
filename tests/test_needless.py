"""Wishes that aren't needed, and books leaned."""

import unittest

from allelse.alike import parted
from allelse.errors import TooMany
from allelse.needless import leaned, needless
from support import (
    are_alike, check_told, odd_things, refusal, row_book, settled_books, snake, some_books, step_wish,
)

ROOMS = ((2,), (4,), (2, 2), (3, 2), (2, 2, 2), (2, 4))
SMALL_ROOMS = ((2,) * 6, (4, 4, 4))
GREAT_ROOMS = ((2,) * 7, (3, 3, 3, 3), (4, 4, 4, 2), (2,) * 8, (4, 4, 4, 4))
UP = ((), 0, 1, 0)
DOWN = ((), 0, 0, 1)
CHAIN = (((), 0, 1, 0), ((), 0, 2, 1), ((), 0, 2, 0))


def books(room):
    told = some_books(room, 10, 4, 70) + some_books(room, 8, 10, 71) + some_books(room, 2, 24, 72)
    return [book[:24] for book in told + settled_books(room, 4, 73)]


def one_less(book, at):
    return tuple(wish for number, wish in enumerate(book) if number != at)


class Needless(unittest.TestCase):
    def test_written_out(self):
        self.assertEqual(needless((3,), CHAIN), [2])
        self.assertEqual(needless((3,), CHAIN[::-1]), [0])
        self.assertEqual(needless((3,), CHAIN[:2]), [])
        self.assertEqual(needless((2, 2), (UP, (((1, 0),), 0, 1, 0))), [1])
        self.assertEqual(needless((2, 2), (UP, (((1, 0),), 0, 0, 1))), [])
        self.assertEqual(needless((2,), ()), [])

    def test_one_of_two_alike(self):
        self.assertEqual(needless((2,), (UP, UP)), [0, 1])
        self.assertEqual(needless((2,), (UP, DOWN, UP)), [0, 2])
        self.assertEqual(needless((2,), (UP, DOWN)), [])

    def test_each_by_itself(self):
        halves = ((((1, 0),), 0, 1, 0), (((1, 1),), 0, 1, 0))
        self.assertEqual(needless((2, 2), halves + (UP,)), [0, 1, 2])

    def test_a_way_round_others(self):
        # By boxes 0 and 1 each up and down: the fourth side of a square, gone round by the other three.
        square = [(0, 0), (1, 0), (1, 1), (0, 1)]
        book = row_book(square) + (step_wish((0, 0), (0, 1)),)
        self.assertEqual(needless((2, 2), book), [3])
        # A ring once round: without any wish it is none.
        self.assertEqual(needless((2, 2), row_book(square + square[:1])), [])
        # A ring gone round both ways: each wish by itself may go.
        both = row_book(square + square[:1]) + row_book(square[::-1] + square[-1:])
        self.assertEqual(needless((2, 2), both), list(range(8)))

    def test_against_the_definition(self):
        many = {"needed": 0, "not": 0}
        for room in ROOMS:
            for book in books(room):
                wanted = [at for at in range(len(book)) if are_alike(room, book, one_less(book, at))]
                self.assertEqual(check_told(self, needless, room, book), wanted)
                many["not"] += len(wanted)
                many["needed"] += len(book) - len(wanted)
        self.assertGreater(min(many.values()), 100)

    def test_rooms_of_sixty_four(self):
        for room in SMALL_ROOMS:
            row = row_book(snake(room)[:24])
            self.assertEqual(needless(room, row), [])
            self.assertEqual(needless(room, row + row[:1]), [0, 23])
            self.assertEqual(needless(room, (UP,) * 24), list(range(24)))


class Leaned(unittest.TestCase):
    def test_from_the_last_wish_to_the_first_one(self):
        self.assertEqual(leaned((2,), (UP, UP)), (UP,))
        self.assertEqual(leaned((2,), (UP, DOWN, UP)), (UP, DOWN))
        halves = ((((1, 0),), 0, 1, 0), (((1, 1),), 0, 1, 0))
        self.assertEqual(leaned((2, 2), halves + (UP,)), halves)
        self.assertEqual(leaned((2, 2), (UP,) + halves), (UP,))
        self.assertEqual(leaned((2, 2), halves[:1] + (UP,) + halves[1:]), (halves[0], UP)[1:])
        self.assertEqual(leaned((2, 2), (halves[0], halves[1], UP, halves[1], halves[0])), halves)

    def test_written_out(self):
        self.assertEqual(leaned((3,), CHAIN), CHAIN[:2])
        self.assertEqual(leaned((3,), CHAIN[::-1]), CHAIN[1::-1])
        self.assertEqual(leaned((3,), CHAIN[:2]), CHAIN[:2])
        self.assertEqual(leaned((2,), ()), ())

    def test_against_the_definition(self):
        gone = 0
        for room in ROOMS:
            for book in books(room):
                left = list(book)
                for at in range(len(book) - 1, -1, -1):
                    if are_alike(room, left, left[:at] + left[at + 1:]):
                        del left[at]
                        gone += 1
                told = check_told(self, leaned, room, book)
                self.assertEqual(told, tuple(left))
                self.assertIs(type(told), tuple)
                self.assertEqual(needless(room, told), [])
                self.assertIsNone(parted(room, told, book))
        self.assertGreater(gone, 100)

    def test_rooms_of_sixty_four(self):
        for room in SMALL_ROOMS:
            row = row_book(snake(room)[:23])
            self.assertEqual(leaned(room, row + row[:2]), row)
            self.assertEqual(leaned(room, (UP,) * 24), (UP,))


class Refused(unittest.TestCase):
    def test_rooms_that_are_not_small(self):
        for room in GREAT_ROOMS:
            for book in ((), (UP,), (UP,) * 24, (UP,) * 25):
                self.assertIs(type(refusal(self, needless, room, book)), TooMany)
                self.assertIs(type(refusal(self, leaned, room, book)), TooMany)

    def test_whatever_else_is_handed_in(self):
        for thing in odd_things():
            self.assertIs(type(refusal(self, needless, (2,) * 7, thing)), TooMany)
            self.assertIs(type(refusal(self, leaned, (2,) * 7, thing)), TooMany)

    def test_twenty_four_and_twenty_five_wishes(self):
        for room in ROOMS + SMALL_ROOMS:
            self.assertEqual(needless(room, (UP,) * 24), list(range(24)))
            self.assertEqual(leaned(room, (UP,) * 24), (UP,))
            for many in (25, 26, 100, 600):
                self.assertIs(type(refusal(self, needless, room, (UP,) * many)), TooMany)
                self.assertIs(type(refusal(self, leaned, room, (UP,) * many)), TooMany)

    def test_books_to_be_parted_may_be_longer(self):
        self.assertIsNone(parted((2,), (UP,) * 25, (UP,) * 26))


if __name__ == "__main__":
    unittest.main()
