"""Rings, worths, and both of them looked at."""

import itertools
import unittest

from allelse.rings import lets_ring, lets_worths, ring_or_worths
from support import (
    GREAT, all_standings, check_told, check_truth, longest_into, odd_things, plain_better, plain_steps, right_ring,
    right_worths, row_book, snake, some_books, spoilt,
)

ROOMS = ((2,), (3,), (4,), (2, 2), (2, 3), (2, 2, 2), (3, 2, 2))
GREAT_ROOMS = ((2,) * 8, (4, 4, 4, 4))
ROUND = (((), 0, 1, 0), (((0, 1),), 1, 1, 0), (((1, 1),), 0, 0, 1), (((0, 0),), 1, 0, 1))
RING = [(0, 0), (1, 0), (1, 1), (0, 1)]
STRAIGHT = (((), 0, 1, 0), (((0, 1),), 1, 1, 0))


def books(room):
    return some_books(room, 14, 4, 10) + some_books(room, 8, 9, 11) + some_books(room, 3, 30, 12)


class RingOrWorths(unittest.TestCase):
    def test_written_out(self):
        self.assertEqual(ring_or_worths((2, 2), ()), ("worths", (0, 0, 0, 0)))
        self.assertEqual(ring_or_worths((2, 2), STRAIGHT), ("worths", (0, 0, 1, 2)))
        self.assertEqual(ring_or_worths((2,), (((), 0, 0, 1),)), ("worths", (1, 0)))
        word, ring = ring_or_worths((2, 2), ROUND)
        self.assertEqual(word, "ring")
        self.assertIn(ring, [RING[at:] + RING[:at] for at in range(4)])

    def test_longest_ways_not_shortest_ones(self):
        book = (((), 0, 3, 0), ((), 0, 1, 0), ((), 0, 2, 1), ((), 0, 3, 2), ((), 0, 3, 1))
        for row in itertools.permutations(book):
            self.assertEqual(ring_or_worths((4,), row), ("worths", (0, 1, 2, 3)))

    def test_two_standings_each_better_than_the_other(self):
        word, ring = ring_or_worths((2,), (((), 0, 1, 0), ((), 0, 0, 1)))
        self.assertEqual((word, sorted(ring)), ("ring", [(0,), (1,)]))

    def test_a_ring_with_ways_into_it_and_out_of_it(self):
        # 0 leads to the ring of 1 and 2, which leads to 3.
        book = (((), 0, 1, 0), ((), 0, 2, 1), ((), 0, 1, 2), ((), 0, 3, 2))
        word, ring = ring_or_worths((4,), book)
        self.assertEqual((word, sorted(ring)), ("ring", [(1,), (2,)]))
        # 3 leads to the ring of 2 and 1, which leads to 0.
        book = (((), 0, 2, 3), ((), 0, 1, 2), ((), 0, 2, 1), ((), 0, 0, 1))
        word, ring = ring_or_worths((4,), book)
        self.assertEqual((word, sorted(ring)), ("ring", [(1,), (2,)]))

    def test_against_the_definition(self):
        found = {"ring": 0, "worths": 0}
        for room in ROOMS:
            for book in books(room):
                leads = plain_steps(room, book)
                better = plain_better(leads)
                has_ring = [one for one in better if one in better[one]]
                word, thing = check_told(self, ring_or_worths, room, book)
                found[word] += 1
                if has_ring:
                    self.assertEqual(word, "ring")
                    self.assertTrue(right_ring(room, leads, thing), thing)
                    check_truth(self, True, lets_ring, room, book, thing)
                else:
                    wanted = tuple(longest_into(leads, standing) for standing in all_standings(room))
                    self.assertEqual((word, thing), ("worths", wanted))
                    self.assertEqual([type(worth) for worth in thing], [int] * len(thing))
                    check_truth(self, True, lets_worths, room, book, thing)
        self.assertGreater(min(found.values()), 30)

    def test_great_rooms(self):
        for room in GREAT_ROOMS:
            row = snake(room)
            whole = all_standings(room)
            wanted = tuple(row.index(standing) for standing in whole)
            self.assertEqual(ring_or_worths(room, row_book(row)), ("worths", wanted))
            self.assertEqual(ring_or_worths(room, ()), ("worths", (0,) * 256))
            book = row_book(row + row[:1])
            word, ring = ring_or_worths(room, book)
            self.assertEqual((word, sorted(ring)), ("ring", whole))
            check_truth(self, True, lets_ring, room, book, ring)

    def test_great_books(self):
        room = (2,) * 8
        book = tuple(((), box, 1, 0) for box in range(8)) * 75
        self.assertEqual(ring_or_worths(room, book), ("worths", tuple(sum(row) for row in all_standings(room))))


class LetsRing(unittest.TestCase):
    def check(self, room, book, things):
        leads = plain_steps(room, book)
        for thing in things:
            check_truth(self, right_ring(room, leads, thing), lets_ring, room, book, thing)

    def test_written_out(self):
        for at in range(4):
            check_truth(self, True, lets_ring, (2, 2), ROUND, RING[at:] + RING[:at])
        check_truth(self, False, lets_ring, (2, 2), ROUND, RING[::-1])
        check_truth(self, False, lets_ring, (2, 2), ROUND, RING + RING)
        check_truth(self, False, lets_ring, (2, 2), ROUND, RING + RING[:1])
        check_truth(self, False, lets_ring, (2, 2), ROUND, RING[:3])
        check_truth(self, False, lets_ring, (2, 2), ROUND, tuple(RING))
        check_truth(self, False, lets_ring, (2, 2), ROUND[1:], RING)
        check_truth(self, False, lets_ring, (2, 2), ROUND[:3], RING)

    def test_too_few(self):
        for thing in ([], [(0, 0)], [(0, 0), (0, 0)]):
            check_truth(self, False, lets_ring, (2, 2), ROUND, thing)
            check_truth(self, False, lets_ring, (2, 2), (), thing)

    def test_all_rows_of_standings_near_by(self):
        for room in ((2,), (3,), (2, 2)):
            things = [list(row) for many in range(5) for row in itertools.product(all_standings(room), repeat=many)]
            for book in books(room):
                self.check(room, book, things)

    def test_of_anything(self):
        self.check((2, 2), ROUND, odd_things() + spoilt(RING))
        self.check((2,), (((), 0, 1, 0), ((), 0, 0, 1)), odd_things() + spoilt([(0,), (1,)]))
        self.check((2,), (), odd_things())

    def test_truths_and_great_numbers_are_no_worths(self):
        for thing in ([(True, 0)] + RING[2:] + RING[:1], [(0, False)] + RING[1:], RING[:3] + [(0, True)]):
            check_truth(self, False, lets_ring, (2, 2), ROUND, thing)
        for thing in (RING[:3] + [(GREAT, 1)], RING[:3] + [(-1, 1)], RING[:3] + [[0, 1]], RING[:3] + [(0, 1, 0)]):
            check_truth(self, False, lets_ring, (2, 2), ROUND, thing)

    def test_great_rooms(self):
        for room in GREAT_ROOMS:
            row = snake(room)
            check_truth(self, True, lets_ring, room, row_book(row + row[:1]), row)
            check_truth(self, False, lets_ring, room, row_book(row), row)


class LetsWorths(unittest.TestCase):
    def check(self, room, book, things):
        leads = plain_steps(room, book)
        for thing in things:
            check_truth(self, right_worths(leads, thing), lets_worths, room, book, thing)

    def test_written_out(self):
        check_truth(self, True, lets_worths, (2, 2), STRAIGHT, (0, 0, 1, 2))
        check_truth(self, True, lets_worths, (2, 2), STRAIGHT, (-7, 3, 4, 5))
        check_truth(self, False, lets_worths, (2, 2), STRAIGHT, (0, 0, 1, 1))
        check_truth(self, False, lets_worths, (2, 2), STRAIGHT, (1, 0, 1, 2))
        check_truth(self, False, lets_worths, (2, 2), STRAIGHT, [0, 0, 1, 2])
        check_truth(self, False, lets_worths, (2, 2), STRAIGHT, (0, 0, 1))
        check_truth(self, False, lets_worths, (2, 2), STRAIGHT, (0, 0, 1, 2, 3))
        check_truth(self, True, lets_worths, (2, 2), (), (5, 5, 5, 5))

    def test_numbers_of_up_to_thirty_figures(self):
        check_truth(self, True, lets_worths, (2,), (((), 0, 1, 0),), (GREAT - 1, GREAT))
        check_truth(self, False, lets_worths, (2,), (((), 0, 1, 0),), (GREAT, GREAT))
        check_truth(self, False, lets_worths, (2,), (((), 0, 1, 0),), (GREAT, GREAT - 1))
        check_truth(self, True, lets_worths, (2,), (((), 0, 1, 0),), (-GREAT, -GREAT + 1))
        check_truth(self, True, lets_worths, (2,), (((), 0, 1, 0),), (-GREAT, GREAT))

    def test_truths_are_no_whole_numbers(self):
        for thing in ((False, 1), (0, True), (False, True), (None, 1), ("0", "1"), (0, "1"), ((0,), (1,)), (0, [])):
            check_truth(self, False, lets_worths, (2,), (((), 0, 1, 0),), thing)
            check_truth(self, False, lets_worths, (2,), (), thing)

    def test_a_book_with_a_ring_has_none(self):
        for thing in itertools.product(range(4), repeat=4):
            check_truth(self, False, lets_worths, (2, 2), ROUND, thing)

    def test_all_worths_near_by(self):
        for room in ((2,), (3,), (2, 2), (4,)):
            things = list(itertools.product((-1, 0, 1, 2), repeat=len(all_standings(room))))
            for book in books(room):
                self.check(room, book, things)

    def test_of_anything(self):
        self.check((2, 2), STRAIGHT, odd_things() + spoilt((0, 0, 1, 2)))
        self.check((2, 2), (), odd_things() + spoilt((0, 0, 1, 2)))
        self.check((2,), (), odd_things())
        self.check((3,), (((), 0, 1, 0),), odd_things() + spoilt((0, 5, 5)))

    def test_great_rooms(self):
        for room in GREAT_ROOMS:
            row = snake(room)
            worths = tuple(row.index(standing) for standing in all_standings(room))
            check_truth(self, True, lets_worths, room, row_book(row), worths)
            check_truth(self, False, lets_worths, room, row_book(row + row[:2]), worths)
            for at in (0, 100, 254, 255):
                wrong = worths[:at] + (-1 if worths[at] else 300,) + worths[at + 1:]
                check_truth(self, False, lets_worths, room, row_book(row), wrong)
            check_truth(self, False, lets_worths, room, row_book(row), worths[:255])
            check_truth(self, False, lets_worths, room, row_book(row), worths + (256,))


if __name__ == "__main__":
    unittest.main()
