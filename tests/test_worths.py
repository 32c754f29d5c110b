"""Worths that show that a standing isn't better than another one."""

import unittest

from allelse.errors import HasRing, IsBetter
from allelse.rings import lets_worths
from allelse.worths import worths_that_show
from support import all_standings, check_told, check_truth, plain_better, plain_steps, row_book, snake, some_books

ROOMS = ((2,), (3,), (4,), (2, 2), (2, 3), (2, 2, 2))
RING = (((), 0, 1, 0), ((), 0, 0, 1))


def books(room):
    return some_books(room, 14, 4, 13) + some_books(room, 6, 9, 14)


class WorthsThatShow(unittest.TestCase):
    def check_shown(self, room, book, one, other):
        whole = all_standings(room)
        worths = check_told(self, worths_that_show, room, book, one, other)
        self.assertEqual([type(worth) for worth in worths], [int] * len(whole))
        self.assertIs(type(worths), tuple)
        check_truth(self, True, lets_worths, room, book, worths)
        self.assertLessEqual(worths[whole.index(other)], worths[whole.index(one)])

    def test_against_the_definition(self):
        seen = {"ring": 0, "better": 0, "shown": 0}
        for room in ROOMS:
            for book in books(room):
                better = plain_better(plain_steps(room, book))
                has_ring = [one for one in better if one in better[one]]
                for one in better:
                    for other in better:
                        if has_ring:
                            seen["ring"] += 1
                            self.assertRaises(HasRing, worths_that_show, room, book, one, other)
                        elif other in better[one]:
                            seen["better"] += 1
                            self.assertRaises(IsBetter, worths_that_show, room, book, one, other)
                        else:
                            seen["shown"] += 1
                            self.check_shown(room, book, one, other)
        self.assertGreater(min(seen.values()), 100)

    def test_a_ring_goes_ahead_of_better(self):
        for one in all_standings((2, 2)):
            for other in all_standings((2, 2)):
                self.assertRaises(HasRing, worths_that_show, (2, 2), RING, one, other)

    def test_a_ring_elsewhere_is_a_ring_too(self):
        # Where box 1 has 1 there is a ring; (0, 0) and (1, 0) have no part in it.
        book = ((((1, 1),), 0, 1, 0), (((1, 1),), 0, 0, 1), (((1, 0),), 0, 1, 0))
        self.assertRaises(HasRing, worths_that_show, (2, 2), book, (0, 0), (1, 0))
        self.assertRaises(HasRing, worths_that_show, (2, 2), book, (1, 0), (0, 0))
        self.assertRaises(IsBetter, worths_that_show, (2, 2), book[1:], (0, 0), (1, 0))
        self.check_shown((2, 2), book[1:], (1, 0), (0, 0))

    def test_one_and_other_the_same(self):
        for book in ((), (((), 0, 1, 0),)):
            for one in all_standings((2, 2)):
                self.check_shown((2, 2), book, one, one)

    def test_other_with_the_longer_way_into_it(self):
        # The longest ways alone show nothing here: other has one of three steps, one has none.
        row = [(0, 0), (1, 0), (2, 0), (3, 0)]
        self.check_shown((4, 2), row_book(row), (0, 1), (3, 0))
        self.check_shown((4, 2), row_book(row), (3, 0), (0, 1))

    def test_rooms_of_two_and_of_256_standings(self):
        self.check_shown((2,), (((), 0, 1, 0),), (1,), (0,))
        self.assertRaises(IsBetter, worths_that_show, (2,), (((), 0, 1, 0),), (0,), (1,))
        self.assertRaises(HasRing, worths_that_show, (2,), RING, (0,), (1,))
        for room in ((2,) * 8, (4, 4, 4, 4)):
            row = snake(room)
            book = row_book(row)
            self.assertRaises(IsBetter, worths_that_show, room, book, row[0], row[-1])
            self.assertRaises(HasRing, worths_that_show, room, row_book(row + [row[-2]]), row[0], row[-1])
            for at in (0, 1, 128, 255):
                self.check_shown(room, book, row[at], row[0])
            # A chain of all but one, which stands apart from it.
            self.check_shown(room, row_book(row[1:]), row[0], row[-1])
            self.check_shown(room, row_book(row[:-1]), row[-1], row[-2])

    def test_nothing_is_lost_by_a_refusal(self):
        self.assertRaises(IsBetter, worths_that_show, (2,), (((), 0, 1, 0),), (0,), (1,))
        self.check_shown((2,), (((), 0, 1, 0),), (1,), (0,))


if __name__ == "__main__":
    unittest.main()
