"""Wishes, books, a book turned."""

import itertools
import unittest

from allelse.wishes import is_book, is_wish, turned
from support import GREAT, all_givens, all_wishes, check_told, check_truth, odd_things, some_books, spoilt

SOME_ROOMS = ((2,), (4,), (2, 3), (3, 2, 2))
WISH = (((0, 1),), 1, 0, 2)


class Wishes(unittest.TestCase):
    def test_every_wish_is_one(self):
        for room in SOME_ROOMS + ((2, 2, 2, 2, 2), (4, 4, 2)):
            for wish in all_wishes(room):
                check_truth(self, True, is_wish, room, wish)

    def test_all_tuples_of_four_near_by(self):
        for room in ((2,), (3,), (2, 3)):
            right = {wish: True for wish in all_wishes(room)}
            for given in all_givens(room):
                for box, better, worse in itertools.product((-1, 0, 1, 2), range(-1, 4), range(-1, 4)):
                    thing = (given, box, better, worse)
                    check_truth(self, thing in right, is_wish, room, thing)

    def test_the_box_is_none_of_the_givens(self):
        room = (2, 3, 2)
        check_truth(self, True, is_wish, room, (((0, 1), (2, 0)), 1, 0, 2))
        check_truth(self, False, is_wish, room, (((0, 1), (2, 0)), 0, 0, 1))
        check_truth(self, False, is_wish, room, (((0, 1), (2, 0)), 2, 0, 1))
        check_truth(self, False, is_wish, room, (((0, 1), (1, 0)), 1, 0, 1))
        check_truth(self, True, is_wish, room, (((1, 0),), 2, 0, 1))

    def test_better_and_worse_are_unlike(self):
        for worth in range(3):
            check_truth(self, False, is_wish, (3,), ((), 0, worth, worth))

    def test_the_given_must_be_one(self):
        room = (2, 3, 2)
        for given in (((2, 0), (0, 1)), ((0, 1), (0, 1)), ((0, 2),), ((3, 0),), [], [(0, 1)], None, "", {}):
            check_truth(self, False, is_wish, room, (given, 1, 0, 2))

    def test_of_anything(self):
        for room in SOME_ROOMS:
            right = {repr(wish): True for wish in all_wishes(room)}
            things = odd_things()
            for wish in all_wishes(room)[::3]:
                things += spoilt(wish)
            for thing in things:
                check_truth(self, repr(thing) in right, is_wish, room, thing)

    def test_of_wide_rooms(self):
        given = tuple((box, 1) for box in range(15))
        check_truth(self, True, is_wish, (2,) * 16, (given, 15, 0, 1))
        check_truth(self, False, is_wish, (2,) * 16, (given, 14, 0, 1))


class Books(unittest.TestCase):
    def test_none_to_six_hundred_wishes(self):
        for many in (0, 1, 2, 599, 600):
            check_truth(self, True, is_book, (2, 3), (WISH,) * many)
        for many in (601, 602, 5000):
            check_truth(self, False, is_book, (2, 3), (WISH,) * many)

    def test_wishes_alike_and_unlike(self):
        wishes = tuple(all_wishes((2, 3)))
        check_truth(self, True, is_book, (2, 3), wishes + wishes)

    def test_each_wish_is_looked_at(self):
        wrong = (((0, 1),), 1, 0, 3)
        for many in (1, 2, 7, 600):
            for at in (0, many // 2, many - 1):
                book = (WISH,) * at + (wrong,) + (WISH,) * (many - at - 1)
                check_truth(self, False, is_book, (2, 3), book)
                check_truth(self, True, is_book, (2, 4), book)

    def test_of_anything(self):
        right = {repr(wish): True for wish in all_wishes((2, 3))}
        book = (WISH, ((), 0, 1, 0), WISH)
        for thing in odd_things() + spoilt(book) + [WISH, list(book), ([*WISH],), (WISH, list(WISH)), (book,)]:
            wanted = type(thing) is tuple and all(repr(part) in right for part in thing) and len(thing) <= 600
            check_truth(self, wanted, is_book, (2, 3), thing)

    def test_great_numbers(self):
        for thing in (GREAT, -GREAT, -1):
            for at in (1, 2, 3):
                wish = list(WISH)
                wish[at] = thing
                check_truth(self, False, is_wish, (2, 3), tuple(wish))
                check_truth(self, False, is_book, (2, 3), (tuple(wish),))


class Turned(unittest.TestCase):
    def test_written_out(self):
        book = (WISH, ((), 0, 1, 0), WISH)
        wanted = ((((0, 1),), 1, 2, 0), ((), 0, 0, 1), (((0, 1),), 1, 2, 0))
        self.assertEqual(turned(book), wanted)
        self.assertEqual(turned(()), ())

    def test_turned_and_turned_again(self):
        for room in SOME_ROOMS:
            for book in some_books(room, 20, 40, 1):
                told = check_told(self, turned, book)
                self.assertIs(type(told), tuple)
                self.assertEqual(told, tuple((given, box, worse, better) for given, box, better, worse in book))
                self.assertEqual(turned(told), book)
                check_truth(self, True, is_book, room, told)

    def test_six_hundred_wishes_and_more(self):
        for many in (600, 650):
            self.assertEqual(turned((WISH,) * many), ((((0, 1),), 1, 2, 0),) * many)


if __name__ == "__main__":
    unittest.main()
