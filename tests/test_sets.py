"""Shut sets looked at."""

import itertools
import unittest

from allelse.sets import lets_shut
from allelse.ways import told
from support import (
    GREAT, all_held, all_standings, check_truth, not_held, odd_things, plain_better, plain_steps, right_shut, row_book,
    snake, some_books, spoilt,
)

BOOK = (((), 0, 1, 0), (((0, 1),), 1, 1, 0))


class LetsShut(unittest.TestCase):
    def check(self, room, book, one, other, things, held=None):
        leads = not_held(plain_steps(room, book), held or ())
        better = plain_better(leads)
        for thing in things:
            wanted = right_shut(room, leads, one, other, thing)
            check_truth(self, wanted, lets_shut, room, book, one, other, thing, held)
            if wanted:
                self.assertNotIn(other, better[one])

    def test_written_out(self):
        room = (2, 2)
        check_truth(self, True, lets_shut, room, BOOK, (1, 0), (0, 0), [(1, 0), (1, 1)])
        check_truth(self, True, lets_shut, room, BOOK, (1, 0), (0, 1), [(1, 0), (1, 1)])
        check_truth(self, True, lets_shut, room, BOOK, (1, 0), (0, 0), [(0, 1), (1, 0), (1, 1)])
        check_truth(self, False, lets_shut, room, BOOK, (1, 0), (0, 0), [(1, 0)])
        check_truth(self, False, lets_shut, room, BOOK, (1, 0), (0, 0), [(1, 1), (1, 0)])
        check_truth(self, False, lets_shut, room, BOOK, (1, 0), (0, 0), [(1, 0), (1, 1), (1, 1)])
        check_truth(self, False, lets_shut, room, BOOK, (1, 0), (0, 0), [(1, 1)])
        check_truth(self, False, lets_shut, room, BOOK, (1, 0), (1, 1), [(1, 0), (1, 1)])
        check_truth(self, False, lets_shut, room, BOOK, (1, 0), (0, 0), ((1, 0), (1, 1)))
        check_truth(self, False, lets_shut, room, BOOK, (1, 0), (0, 0), [])

    def test_other_may_be_among_them_where_nothing_leads_to_it(self):
        room = (2, 2)
        check_truth(self, True, lets_shut, room, BOOK, (1, 0), (0, 0), all_standings(room))
        check_truth(self, True, lets_shut, room, BOOK, (0, 0), (0, 0), [(0, 0), (1, 0), (1, 1)])
        check_truth(self, False, lets_shut, room, BOOK, (1, 1), (1, 1), [(1, 0), (1, 1)])
        check_truth(self, True, lets_shut, room, BOOK, (1, 1), (1, 1), [(1, 1)])
        check_truth(self, True, lets_shut, room, (), (1, 1), (1, 1), all_standings(room))

    def test_held_boxes(self):
        room = (2, 2)
        check_truth(self, True, lets_shut, room, BOOK, (1, 0), (0, 0), [(1, 0)], (1,))
        check_truth(self, False, lets_shut, room, BOOK, (1, 0), (0, 0), [(1, 0)], (0,))
        check_truth(self, True, lets_shut, room, BOOK, (0, 0), (1, 1), [(0, 0)], (0, 1))
        check_truth(self, False, lets_shut, room, BOOK, (0, 0), (1, 1), [(0, 0)], ())
        check_truth(self, False, lets_shut, room, BOOK, (0, 0), (1, 1), [(0, 0)], None)
        check_truth(self, True, lets_shut, room, BOOK, (1, 0), (1, 1), [(1, 0), (1, 1)], (1,))

    def test_all_sets_of_standings(self):
        for room in ((2,), (3,), (2, 2), (2, 3)):
            whole = all_standings(room)
            things = [list(row) for many in range(len(whole) + 1) for row in itertools.combinations(whole, many)]
            for book in some_books(room, 4, 3, 7) + some_books(room, 3, 8, 8):
                for held in all_held(room):
                    for one in whole[::2]:
                        for other in whole:
                            self.check(room, book, one, other, things, held)

    def test_all_rows_of_standings_near_by(self):
        room = (3,)
        things = [list(row) for many in range(4) for row in itertools.product(all_standings(room), repeat=many)]
        for book in some_books(room, 8, 4, 9):
            self.check(room, book, (0,), (2,), things)
            self.check(room, book, (1,), (1,), things)

    def test_of_anything(self):
        shut = [(1, 0), (1, 1)]
        self.check((2, 2), BOOK, (1, 0), (0, 0), odd_things() + spoilt(shut))
        self.check((2, 2), (), (0, 1), (0, 1), odd_things() + spoilt(all_standings((2, 2))))
        self.check((2,), (), (0,), (1,), odd_things() + spoilt([(0,), (1,)]))

    def test_truths_and_great_numbers_are_no_worths(self):
        for thing in ([(1, 0), (1, True)], [(True, 0), (1, 1)], [(1, False), (1, 1)], [(1, 0), (1, 1), (GREAT, 0)]):
            check_truth(self, False, lets_shut, (2, 2), BOOK, (1, 0), (0, 0), thing)
        for thing in ([(-1, 0), (1, 0), (1, 1)], [(1, 0), [1, 1]], [(1, 0), (1, 1), None], {(1, 0): 1, (1, 1): 1}):
            check_truth(self, False, lets_shut, (2, 2), BOOK, (1, 0), (0, 0), thing)

    def test_great_rooms(self):
        for room in ((2,) * 8, (4, 4, 4, 4)):
            row = snake(room)
            book = row_book(row)
            whole = all_standings(room)
            check_truth(self, True, lets_shut, room, book, row[5], row[0], whole)
            check_truth(self, False, lets_shut, room, book, row[5], row[1], whole)
            check_truth(self, True, lets_shut, room, book, row[5], row[4], sorted(row[5:]))
            check_truth(self, False, lets_shut, room, book, row[5], row[4], sorted(row[5:-1]))
            check_truth(self, False, lets_shut, room, book, row[0], row[0], sorted(row[:100]))
            check_truth(self, True, lets_shut, room, book, row[200], row[3], told(room, book, row[200], row[3])[1])


if __name__ == "__main__":
    unittest.main()
