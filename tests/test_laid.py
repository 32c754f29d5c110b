"""Full books, and books laid over one another."""

import itertools
import random
import unittest

from allelse.errors import TooMany
from allelse.laid import full, laid
from allelse.wishes import is_book
from support import (
    all_rooms, all_standings, check_told, full_given, odd_things, plain_steps, refusal, rising, row_book, settled_books,
    snake, some_books, step_wish, unlike_at,
)

ROOMS = ((2,), (4,), (2, 2), (3, 2), (2, 2, 2), (2, 4), (2, 2, 3))
SMALL_ROOMS = ((2,) * 6, (4, 4, 4), (4, 4, 2, 2), (2, 4, 2, 4))
GREAT_ROOMS = ((2,) * 7, (3, 3, 3, 3), (4, 4, 4, 2), (2,) * 8, (4, 4, 4, 4))
UP = ((), 0, 1, 0)
DOWN = ((), 0, 0, 1)


def books(room):
    return some_books(room, 8, 4, 80) + some_books(room, 6, 12, 81) + settled_books(room, 2, 82)


def full_of(steps):
    """The full book of tuples (one, other) of a bettering."""
    return tuple(sorted(step_wish(one, other) for one, other in steps))


def pairs_of(room, book):
    leads = plain_steps(room, book)
    return [(one, other) for one in leads for other in leads[one]]


def laid_steps(room, some):
    """The betterings of books laid over one another, pair by pair."""
    said = [pairs_of(room, book) for book in some]
    told = []
    for one, other in itertools.product(all_standings(room), repeat=2):
        for pairs in said:
            if (one, other) in pairs or (other, one) in pairs:
                if (one, other) in pairs:
                    told.append((one, other))
                break
    return told


class FullBooks(unittest.TestCase):
    def test_written_out(self):
        self.assertEqual(full((2,), (UP,)), (UP,))
        self.assertEqual(full((2,), (UP, DOWN, UP)), (DOWN, UP))
        self.assertEqual(full((2, 2), (UP,)), ((((1, 0),), 0, 1, 0), (((1, 1),), 0, 1, 0)))
        self.assertEqual(full((3, 2), ((((0, 2),), 1, 0, 1),)), ((((0, 2),), 1, 0, 1),))
        three = full((2, 2, 2), ((((2, 1),), 1, 0, 1), UP))
        self.assertEqual(three, (
            (((0, 0), (2, 1)), 1, 0, 1), (((0, 1), (2, 1)), 1, 0, 1),
            (((1, 0), (2, 0)), 0, 1, 0), (((1, 0), (2, 1)), 0, 1, 0),
            (((1, 1), (2, 0)), 0, 1, 0), (((1, 1), (2, 1)), 0, 1, 0),
        ))

    def test_without_wishes(self):
        for room in ROOMS + SMALL_ROOMS:
            self.assertEqual(check_told(self, full, room, ()), ())

    def test_against_the_definition(self):
        for room in ROOMS:
            for book in books(room):
                leads = plain_steps(room, book)
                wanted = sorted(
                    (full_given(one, unlike_at(one, other)[0]), unlike_at(one, other)[0],
                     other[unlike_at(one, other)[0]], one[unlike_at(one, other)[0]])
                    for one in leads for other in leads[one]
                )
                told = check_told(self, full, room, book)
                self.assertEqual(told, tuple(wanted))
                self.assertIs(type(told), tuple)
                self.assertIs(is_book(room, told), True)
                self.assertEqual(pairs_of(room, told), pairs_of(room, book))
                self.assertEqual(full(room, told), told)

    def test_rooms_of_sixty_four(self):
        for room in SMALL_ROOMS:
            both = rising(room) + tuple((given, box, worse, better) for given, box, better, worse in rising(room))
            told = full(room, both)
            self.assertEqual(told, full_of(pairs_of(room, both)))
            row = snake(room)
            self.assertEqual(full(room, row_book(row) * 2), tuple(sorted(row_book(row))))

    def test_as_many_wishes_as_there_can_be(self):
        worths = list(itertools.permutations(range(4), 2))
        every = tuple(((), box, better, worse) for box in range(3) for better, worse in worths)
        told = full((4, 4, 4), every)
        self.assertEqual(len(told), 576)
        self.assertIs(is_book((4, 4, 4), told), True)


class Laid(unittest.TestCase):
    def test_the_first_one_that_has_a_say_has_it(self):
        self.assertEqual(laid((2,), [(UP,), (DOWN,)]), (UP,))
        self.assertEqual(laid((2,), [(DOWN,), (UP,)]), (DOWN,))
        self.assertEqual(laid((2,), [(), (UP,), (DOWN,)]), (UP,))
        self.assertEqual(laid((2,), [(), (), (), (), (), (DOWN,)]), (DOWN,))

    def test_both_ways_where_that_book_betters_both_ways_and_only_there(self):
        self.assertEqual(laid((2,), [(UP, DOWN), (UP,)]), (DOWN, UP))
        self.assertEqual(laid((2,), [(UP,), (UP, DOWN)]), (UP,))
        self.assertEqual(laid((2,), [(), (UP, DOWN), (DOWN,)]), (DOWN, UP))

    def test_pair_by_pair(self):
        # The first book speaks where box 1 has 1 alone, the second one everywhere.
        first, second = ((((1, 1),), 0, 1, 0),), (DOWN,)
        self.assertEqual(laid((2, 2), [first, second]), ((((1, 0),), 0, 0, 1), (((1, 1),), 0, 1, 0)))
        self.assertEqual(laid((2, 2), [second, first]), full((2, 2), second))
        # Of three worths the first book speaks of two.
        book = (((), 0, 0, 1), ((), 0, 2, 1), ((), 0, 2, 0))
        self.assertEqual(laid((3,), [(UP,), book]), (((), 0, 1, 0), ((), 0, 2, 0), ((), 0, 2, 1)))

    def test_of_one_book_the_full_book(self):
        for room in ROOMS:
            for book in books(room):
                self.assertEqual(laid(room, [book]), full(room, book))
                self.assertEqual(laid(room, [book, book]), full(room, book))
                self.assertEqual(laid(room, [(), book, ()]), full(room, book))

    def test_without_wishes(self):
        for many in range(1, 7):
            self.assertEqual(check_told(self, laid, (2, 3), [()] * many), ())

    def test_against_the_definition(self):
        chance = random.Random(83)
        for room in ROOMS:
            for many in range(1, 7):
                for _ in range(4):
                    some = [chance.choice(books(room)) for _ in range(many)]
                    told = check_told(self, laid, room, some)
                    self.assertEqual(told, full_of(laid_steps(room, some)))
                    self.assertIs(is_book(room, told), True)

    def test_rooms_of_sixty_four(self):
        for room in SMALL_ROOMS:
            row = snake(room)
            first, second = row_book(row[:20]), row_book(row[::-1])
            told = laid(room, [first, second])
            self.assertEqual(told, tuple(sorted(first + row_book(row[:18:-1]))))


class Refused(unittest.TestCase):
    def test_rooms_that_are_not_small(self):
        for room in GREAT_ROOMS:
            for book in ((), (UP,), (UP,) * 600):
                self.assertIs(type(refusal(self, full, room, book)), TooMany)
                self.assertIs(type(refusal(self, laid, room, [book])), TooMany)
                self.assertIs(type(refusal(self, laid, room, [book] * 6)), TooMany)

    def test_just_the_rooms_of_more_than_sixty_four(self):
        for room in all_rooms()[::7]:
            size = len(all_standings(room))
            if size > 64:
                self.assertIs(type(refusal(self, full, room, (UP,))), TooMany)
                self.assertIs(type(refusal(self, laid, room, [(UP,)])), TooMany)
            else:
                self.assertEqual(len(full(room, (UP,))), size // room[0])
                self.assertEqual(len(laid(room, [(UP,)])), size // room[0])

    def test_whatever_else_is_handed_in(self):
        for thing in odd_things():
            self.assertIs(type(refusal(self, full, (2,) * 7, thing)), TooMany)
            self.assertIs(type(refusal(self, laid, (2,) * 7, thing)), TooMany)
            self.assertIs(type(refusal(self, laid, (2,) * 7, [thing])), TooMany)


if __name__ == "__main__":
    unittest.main()
