"""Which wish betters a standing to another one, betterings, local pairs."""

import unittest

from allelse.rooms import changed
from allelse.steps import betterings, local_pairs, why
from support import all_held, all_standings, all_wishes, check_told, not_held, plain_steps, row_book, snake, some_books

ROOMS = ((2,), (4,), (2, 3), (3, 4), (2, 2, 2), (2, 3, 2), (4, 2, 2))
BOOK = ((((0, 1),), 1, 0, 2), ((), 1, 0, 2), ((), 0, 1, 0), ((), 1, 0, 2), (((1, 2),), 0, 0, 1))


def books(room):
    return some_books(room, 12, 6, 2) + some_books(room, 6, 40, 3)


class Why(unittest.TestCase):
    def test_written_out(self):
        self.assertEqual(why(BOOK, (1, 2), (1, 0)), 0)
        self.assertEqual(why(BOOK, (0, 2), (0, 0)), 1)
        self.assertEqual(why(BOOK, (0, 1), (1, 1)), 2)
        self.assertEqual(why(BOOK, (1, 2), (0, 2)), 4)
        self.assertIsNone(why(BOOK, (1, 1), (0, 1)))
        self.assertIsNone(why(BOOK, (1, 0), (1, 2)))
        self.assertIsNone(why(BOOK, (1, 2), (1, 1)))
        self.assertIsNone(why(BOOK, (1, 2), (1, 2)))
        self.assertIsNone(why(BOOK, (0, 2), (1, 0)))
        self.assertIsNone(why((), (0, 2), (0, 0)))

    def test_the_first_of_wishes_alike(self):
        wish = (((0, 1),), 1, 0, 2)
        for ahead in (0, 1, 300, 599):
            book = (((), 0, 1, 0),) * ahead + (wish,) * (600 - ahead)
            self.assertEqual(why(book, (1, 2), (1, 0)), ahead)
            self.assertIs(type(why(book, (1, 2), (1, 0))), int)

    def test_against_the_definition(self):
        for room in ROOMS:
            for book in books(room):
                leads = plain_steps(room, book)
                for one in leads:
                    for other in leads:
                        self.assertEqual(check_told(self, why, book, one, other), leads[one].get(other))

    def test_what_a_book_parts_is_unlike_at_one_box(self):
        room = (2, 3, 2)
        book = tuple(all_wishes(room))
        for one in all_standings(room):
            for other in all_standings(room):
                unlike = sum(one[box] != other[box] for box in range(3))
                self.assertEqual(why(book, one, other) is not None, unlike == 1)

    def test_books_somewhat_beyond_are_not_refused(self):
        self.assertEqual(why((((), 0, 0, 1),) * 640 + (((), 0, 1, 0),), (0,), (1,)), 640)


class Betterings(unittest.TestCase):
    def test_written_out(self):
        room = (2, 3)
        self.assertEqual(betterings(room, BOOK, (0, 2)), [(0, 0), (1, 2)])
        self.assertEqual(betterings(room, BOOK, (1, 2)), [(0, 2), (1, 0)])
        self.assertEqual(betterings(room, BOOK, (0, 2), (0,)), [(0, 0)])
        self.assertEqual(betterings(room, BOOK, (0, 2), (1,)), [(1, 2)])
        self.assertEqual(betterings(room, BOOK, (0, 2), (0, 1)), [])
        self.assertEqual(betterings(room, BOOK, (1, 1)), [])
        self.assertEqual(betterings(room, (), (0, 2)), [])

    def test_both_ways(self):
        book = (((), 0, 1, 0), ((), 0, 0, 1))
        self.assertEqual(betterings((2,), book, (0,)), [(1,)])
        self.assertEqual(betterings((2,), book, (1,)), [(0,)])

    def test_against_the_definition(self):
        for room in ROOMS:
            for book in books(room):
                leads = plain_steps(room, book)
                for standing in leads:
                    told = check_told(self, betterings, room, book, standing)
                    self.assertIs(type(told), list)
                    self.assertEqual(told, sorted(leads[standing]))

    def test_held_boxes(self):
        for room in ROOMS:
            for book in books(room)[::3]:
                leads = plain_steps(room, book)
                for held in all_held(room):
                    left = not_held(leads, held)
                    for standing in leads:
                        told = check_told(self, betterings, room, book, standing, held)
                        self.assertEqual(told, sorted(left[standing]))

    def test_none_and_no_boxes_held_are_one(self):
        for standing in all_standings((2, 3)):
            told = betterings((2, 3), BOOK, standing)
            self.assertEqual(betterings((2, 3), BOOK, standing, None), told)
            self.assertEqual(betterings((2, 3), BOOK, standing, ()), told)

    def test_great_rooms_and_books(self):
        for room in ((2,) * 8, (4, 4, 4, 4)):
            row = snake(room)
            book = row_book(row) + row_book(row) + (((), 0, 1, 0),) * 90
            self.assertEqual(len(book), 600)
            for one, other in zip(row, row[1:]):
                wanted = {other}
                if one[0] == 0:
                    wanted.add((1,) + one[1:])
                self.assertEqual(betterings(room, book, one), sorted(wanted))

    def test_of_wide_rooms(self):
        room = (4,) * 16
        one = (0,) * 16
        self.assertEqual(betterings(room, (((), 15, 3, 0), ((), 0, 1, 0)), one), [one[:15] + (3,), (1,) + one[1:]])


class LocalPairs(unittest.TestCase):
    def test_written_out(self):
        room = (2, 3)
        for worth in range(3):
            self.assertEqual(local_pairs(room, BOOK, 1, (0, worth)), [(2, 0)])
        for worth in range(2):
            self.assertEqual(local_pairs(room, BOOK, 0, (worth, 0)), [(0, 1)])
            self.assertEqual(local_pairs(room, BOOK, 0, (worth, 2)), [(0, 1), (1, 0)])
        self.assertEqual(local_pairs(room, (), 0, (0, 0)), [])

    def test_worse_stands_ahead_of_better(self):
        self.assertEqual(local_pairs((4,), (((), 0, 3, 0), ((), 0, 0, 2), ((), 0, 3, 0)), 0, (1,)), [(0, 3), (2, 0)])

    def test_against_the_definition(self):
        for room in ROOMS:
            for book in books(room):
                leads = plain_steps(room, book)
                for standing in leads:
                    for box in range(len(room)):
                        worths = range(room[box])
                        wanted = [(worse, better) for worse in worths for better in worths
                                  if changed(standing, box, better) in leads[changed(standing, box, worse)]]
                        told = check_told(self, local_pairs, room, book, box, standing)
                        self.assertIs(type(told), list)
                        self.assertEqual(told, wanted)

    def test_what_the_box_has_itself_does_not_matter(self):
        for room in ROOMS:
            for book in books(room)[::3]:
                for standing in all_standings(room):
                    for box in range(len(room)):
                        told = [local_pairs(room, book, box, changed(standing, box, worth))
                                for worth in range(room[box])]
                        self.assertEqual(told, [told[0]] * len(told))


if __name__ == "__main__":
    unittest.main()
