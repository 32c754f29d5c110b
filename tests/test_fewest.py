"""The fewest rows of a book."""

import itertools
import unittest

from allelse.cover import cover
from allelse.errors import TooMany
from allelse.fewest import fewest
from allelse.wishes import is_book
from support import (
    all_standings, all_wishes, check_told, grounds_book, least_many, odd_things, plain_grounds, plain_steps,
    plain_wide, refusal, row_book, settled_books, snake, some_books,
)

ROOMS = ((2,), (4,), (2, 2), (3, 2), (2, 4), (2, 2, 2), (3, 2, 2), (2, 2, 2, 2))
GREAT_ROOMS = ((2,) * 7, (3, 3, 3, 3), (4, 4, 4, 2), (2,) * 8, (4, 4, 4, 4))
UP = ((), 0, 1, 0)
DOWN = ((), 0, 0, 1)


def steps(room, book):
    """All betterings, without the wishes that do them."""
    leads = plain_steps(room, book)
    return {one: sorted(leads[one]) for one in leads}


def changes(room):
    return [(box, better, worse) for box, worths in enumerate(room)
            for better, worse in itertools.permutations(range(worths), 2)]


class Fewest(unittest.TestCase):
    def test_written_out(self):
        self.assertEqual(fewest((2,), (UP, UP)), (UP,))
        self.assertEqual(sorted(fewest((2,), (UP, DOWN, UP))), [DOWN, UP])
        self.assertEqual(fewest((2, 2), ((((1, 0),), 0, 1, 0), (((1, 1),), 0, 1, 0))), (UP,))
        self.assertEqual(fewest((2, 2), (UP, (((1, 1),), 0, 1, 0))), (UP,))
        half = ((((1, 0),), 0, 1, 0),)
        self.assertEqual(fewest((2, 2), half), half)
        self.assertEqual(fewest((2, 3), half), half)
        parts = tuple((((1, worth),), 0, 1, 0) for worth in range(3))
        self.assertEqual(fewest((2, 3), parts), (UP,))
        self.assertEqual(sorted(fewest((2, 3), parts[:2])), sorted(parts[:2]))

    def test_without_wishes(self):
        for room in ROOMS + ((2,) * 6, (4, 4, 4)):
            self.assertEqual(check_told(self, fewest, room, ()), ())

    def test_a_wish_that_is_not_needed_and_yet_betters(self):
        # The very same betterings are asked, not only a book alike.
        chain = (((), 0, 1, 0), ((), 0, 2, 0), ((), 0, 2, 1))
        self.assertEqual(sorted(fewest((3,), chain)), sorted(chain))

    def test_wishes_that_lap_over_one_another(self):
        # Between two wishes lies a third, of which each bettering is one of the two others'.
        two = ((((1, 1),), 0, 1, 0), (((2, 1),), 0, 1, 0))
        self.assertEqual(sorted(fewest((2, 2, 2), two + ((((1, 1), (2, 1)), 0, 1, 0),))), sorted(two))
        middle = ((((1, 1), (2, 0)), 0, 1, 0), (((1, 0), (3, 1)), 0, 1, 0), (((2, 0), (3, 1)), 0, 1, 0))
        self.assertEqual(sorted(fewest((2, 2, 2, 2), middle)), sorted(middle[:2]))

    def test_against_the_definition(self):
        shorter = 0
        for room in ROOMS:
            for book in some_books(room, 10, 5, 100) + some_books(room, 5, 20, 101) + settled_books(room, 4, 102):
                told = check_told(self, fewest, room, book)
                self.assertTrue(is_book(room, told), told)
                self.assertEqual(steps(room, told), steps(room, book))
                self.assertLessEqual(len(told), len(book))
                shorter += len(told) < len(book)
                leads = plain_steps(room, book)
                many = 0
                for box, better, worse in changes(room):
                    some = plain_grounds(leads, box, better, worse)
                    many += least_many(some, plain_wide(room, some, box, worse))
                    rows = [wish for wish in told if wish[1:] == (box, better, worse)]
                    self.assertEqual(len(rows), len(cover(room, book, box, better, worse)[0]))
                self.assertEqual(len(told), many)
        self.assertGreater(shorter, 20)

    def test_no_fewer_wishes_whichever(self):
        for room in ((2,), (3,), (2, 2)):
            wishes = all_wishes(room)
            for book in some_books(room, 12, 8, 103):
                wanted = steps(room, book)
                told = fewest(room, book)
                for many in range(min(len(told), 4)):
                    for rows in itertools.combinations(wishes, many):
                        self.assertNotEqual(steps(room, rows), wanted)

    def test_rooms_of_sixty_four(self):
        for room in ((2,) * 6, (4, 4, 4), (2, 4, 2, 4)):
            row = row_book(snake(room)[:40])
            told = check_told(self, fewest, room, row)
            self.assertEqual(steps(room, told), steps(room, row))
            self.assertLessEqual(len(told), len(row))
            self.assertEqual(len(fewest(room, told * 3)), len(told))
            self.assertEqual(len(fewest(room, told + row)), len(told))


class Refused(unittest.TestCase):
    def test_rooms_that_are_not_small(self):
        for room in GREAT_ROOMS:
            for book in ((), (UP,)):
                self.assertIs(type(refusal(self, fewest, room, book)), TooMany)

    def test_whatever_else_is_handed_in(self):
        for thing in odd_things():
            self.assertIs(type(refusal(self, fewest, (2,) * 7, thing)), TooMany)

    def test_twelve_and_thirteen_grounds(self):
        for room in ((2,) * 5, (2,) * 6, (4, 4, 4), (2, 4, 4)):
            for box in (0, len(room) - 1):
                for better, worse in ((1, 0), (room[box] - 1, room[box] - 2), (0, room[box] - 1)):
                    whole = [standing for standing in all_standings(room) if standing[box] == worse]
                    if len(whole) > 12:
                        told = fewest(room, grounds_book(whole[:12], box, better))
                        self.assertEqual(steps(room, told), steps(room, grounds_book(whole[:12], box, better)))
                        for many in (13, len(whole)):
                            book = grounds_book(whole[:many], box, better)
                            self.assertIs(type(refusal(self, fewest, room, book)), TooMany)
                            self.assertIs(type(refusal(self, fewest, room, (((), 1, 1, 0),) + book)), TooMany)

    def test_many_grounds_in_all_are_no_bar(self):
        # Twelve for each box, better and worse are not too many, and neither are many wishes.
        room = (2,) * 5
        book = ()
        for box in range(5):
            for worse in (0, 1):
                whole = [standing for standing in all_standings(room) if standing[box] == worse]
                book += grounds_book(whole[:12], box, 1 - worse)
        self.assertEqual(len(book), 120)
        told = fewest(room, book * 5)
        self.assertEqual(len(told), 20)
        self.assertEqual(steps(room, told), steps(room, book))


if __name__ == "__main__":
    unittest.main()
