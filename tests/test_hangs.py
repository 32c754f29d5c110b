"""What hangs on what, the order of boxes, rings of hanging."""

import itertools
import unittest

from allelse.hangs import hangs, order
from allelse.wishes import is_book
from support import (
    all_givens, check_told, full_given, plain_hangs, plain_order, plain_pairs, plain_steps, right_round, row_book,
    settled_books, snake, some_books,
)

ROOMS = ((2,), (4,), (2, 2), (2, 3), (4, 2), (2, 2, 2), (3, 2, 2), (2, 2, 2, 2))
GREAT_ROOMS = ((2,) * 8, (4, 4, 4, 4))


def on(box, other):
    """A wish by which a box hangs on another one."""
    return (((other, 1),), box, 1, 0)


def books(room):
    told = some_books(room, 12, 3, 20) + some_books(room, 8, 8, 21) + some_books(room, 2, 30, 22)
    return told + settled_books(room, 4, 23)


class Hangs(unittest.TestCase):
    def test_written_out(self):
        self.assertEqual(hangs((2, 2), (on(1, 0),)), [(1, 0)])
        self.assertEqual(hangs((2, 2), (on(0, 1),)), [(0, 1)])
        self.assertEqual(hangs((2, 2), (on(0, 1), on(1, 0))), [(0, 1), (1, 0)])
        self.assertEqual(hangs((2, 2, 2), ((((0, 1), (1, 0)), 2, 1, 0),)), [(2, 0), (2, 1)])
        self.assertEqual(hangs((2, 2, 2), (on(2, 1), on(2, 0), on(1, 0))), [(1, 0), (2, 0), (2, 1)])

    def test_nothing_hangs(self):
        for room in ROOMS + GREAT_ROOMS:
            self.assertEqual(hangs(room, ()), [])
            self.assertEqual(hangs(room, tuple(((), box, 1, 0) for box in range(len(room)))), [])
            self.assertEqual(hangs(room, tuple(((), box, 1, 0) for box in range(len(room))) * 3), [])

    def test_told_of_and_yet_nothing_hangs_on_it(self):
        both = ((((0, 0),), 1, 1, 0), (((0, 1),), 1, 1, 0))
        self.assertEqual(hangs((2, 2), both), [])
        self.assertEqual(hangs((3, 2), both), [(1, 0)])
        self.assertEqual(hangs((3, 2), both + ((((0, 2),), 1, 1, 0),)), [])
        self.assertEqual(hangs((3, 2), both + ((((0, 2),), 1, 0, 1),)), [(1, 0)])
        self.assertEqual(hangs((2, 2), (on(1, 0), ((), 1, 1, 0))), [])
        self.assertEqual(hangs((2, 2), (((), 1, 1, 0), on(1, 0))), [])
        self.assertEqual(hangs((2, 2), (((), 1, 0, 1), on(1, 0))), [(1, 0)])
        parts = ((((0, 0), (1, 0)), 2, 1, 0), (((0, 0), (1, 1)), 2, 1, 0))
        self.assertEqual(hangs((2, 2, 2), parts), [(2, 0)])

    def test_wishes_alike(self):
        self.assertEqual(hangs((2, 2), (on(1, 0),) * 5), [(1, 0)])
        self.assertEqual(hangs((2, 2, 2), (on(2, 1), on(2, 0)) * 2), [(2, 0), (2, 1)])

    def test_a_pair_that_parts_at_the_last_worths_alone(self):
        book = tuple((((0, worth),), 1, 1, 0) for worth in range(3))
        self.assertEqual(hangs((4, 2), book), [(1, 0)])
        self.assertEqual(hangs((4, 2), book[1:] + ((((0, 3),), 1, 1, 0),)), [(1, 0)])
        self.assertEqual(hangs((2, 4), (((), 1, 3, 2), (((0, 1),), 1, 2, 3))), [(1, 0)])

    def test_hanging_seen_at_two_standings_alone(self):
        room = (2,) * 5
        for box in range(5):
            given = full_given((1, 0, 1, 1, 0), box)
            wanted = [(box, other) for other in range(5) if other != box]
            self.assertEqual(hangs(room, ((given, box, 1, 0),)), wanted)

    def test_against_the_definition(self):
        many = 0
        for room in ROOMS:
            for book in books(room):
                wanted = plain_hangs(room, plain_pairs(room, plain_steps(room, book)))
                told = check_told(self, hangs, room, book)
                self.assertEqual(told, wanted)
                self.assertIs(type(told), list)
                many += len(told)
        self.assertGreater(many, 200)

    def test_great_rooms(self):
        for room in GREAT_ROOMS:
            boxes = len(room)
            for step in (1, boxes - 1):
                pairs = sorted((box, (box + step) % boxes) for box in range(boxes))
                self.assertEqual(check_told(self, hangs, room, tuple(on(*pair) for pair in pairs)), pairs)
            every = list(itertools.permutations(range(boxes), 2))
            self.assertEqual(hangs(room, row_book(snake(room))), every)

    def test_a_great_book(self):
        room = (4, 4, 4, 4)
        givens = [given for given in all_givens(room) if len(given) == 2 and not [one for one in given if one[0] == 3]]
        book = tuple((given, 3, sum(given[0]) % 4, better) for given in givens for better in range(4)
                     if better != sum(given[0]) % 4)
        self.assertTrue(is_book(room, book * 4))
        self.assertEqual(hangs(room, book * 4), [(3, 0), (3, 1)])


class Order(unittest.TestCase):
    def test_the_least_that_can_come_next_comes_next(self):
        self.assertEqual(order((2,) * 3, ()), ("order", [0, 1, 2]))
        self.assertEqual(order((2,), (((), 0, 1, 0),)), ("order", [0]))
        self.assertEqual(order((2,) * 2, (on(0, 1),)), ("order", [1, 0]))
        self.assertEqual(order((2,) * 4, (on(0, 2),)), ("order", [1, 2, 0, 3]))
        self.assertEqual(order((2,) * 4, (on(1, 3),)), ("order", [0, 2, 3, 1]))
        self.assertEqual(order((2,) * 4, (on(0, 3), on(1, 2))), ("order", [2, 1, 3, 0]))
        self.assertEqual(order((2,) * 4, (on(0, 3), on(0, 1), on(2, 0))), ("order", [1, 3, 0, 2]))
        self.assertEqual(order((2,) * 4, (on(0, 1), on(1, 2), on(2, 3))), ("order", [3, 2, 1, 0]))
        self.assertEqual(order((2,) * 4, (on(1, 0), on(2, 1), on(3, 2))), ("order", [0, 1, 2, 3]))

    def test_what_nothing_hangs_on_is_no_bar(self):
        both = ((((0, 0),), 1, 1, 0), (((0, 1),), 1, 1, 0))
        self.assertEqual(order((2, 2), both + (on(0, 1),)), ("order", [1, 0]))

    def test_rings(self):
        word, ring = order((2, 2), (on(0, 1), on(1, 0)))
        self.assertEqual(word, "ring")
        self.assertIn(ring, ([0, 1], [1, 0]))
        word, ring = order((2, 2, 2), (on(0, 1), on(1, 2), on(2, 0)))
        self.assertEqual(word, "ring")
        self.assertIn(ring, ([0, 1, 2], [1, 2, 0], [2, 0, 1]))
        word, ring = order((2, 2, 2), (on(0, 2), on(2, 1), on(1, 0)))
        self.assertEqual(word, "ring")
        self.assertIn(ring, ([0, 2, 1], [2, 1, 0], [1, 0, 2]))

    def test_a_ring_with_boxes_that_hang_on_it_and_on_which_it_hangs(self):
        for a, b, c, d in itertools.permutations(range(4)):
            word, ring = order((2,) * 4, (on(a, b), on(b, c), on(c, b), on(c, d)))
            self.assertEqual((word, sorted(ring)), ("ring", sorted([b, c])))
            word, ring = order((2,) * 4, (on(a, b), on(b, c), on(c, d), on(d, c), on(d, b)))
            self.assertEqual(word, "ring")
            self.assertTrue(right_round(ring, [(b, c), (c, d), (d, c), (d, b)]), ring)

    def test_against_the_definition(self):
        found = {"ring": 0, "order": 0}
        for room in ROOMS:
            for book in books(room):
                hanging = plain_hangs(room, plain_pairs(room, plain_steps(room, book)))
                wanted = plain_order(room, hanging)
                word, boxes = check_told(self, order, room, book)
                found[word] += 1
                if wanted is None:
                    self.assertEqual(word, "ring")
                    self.assertTrue(right_round(boxes, hanging), boxes)
                else:
                    self.assertEqual((word, boxes), ("order", wanted))
        self.assertGreater(min(found.values()), 20)

    def test_all_that_can_hang_in_rooms_of_three_boxes(self):
        pairs = list(itertools.permutations(range(3), 2))
        for many in range(len(pairs) + 1):
            for some in itertools.combinations(pairs, many):
                room, book = (2, 2, 2), tuple(on(*pair) for pair in some)
                self.assertEqual(hangs(room, book), list(some))
                word, boxes = order(room, book)
                wanted = plain_order(room, some)
                self.assertEqual(word, "ring" if wanted is None else "order")
                self.assertTrue(right_round(boxes, some) if wanted is None else boxes == wanted)

    def test_great_rooms(self):
        for room in GREAT_ROOMS:
            boxes = len(room)
            book = tuple(on(box, box + 1) for box in range(boxes - 1))
            self.assertEqual(check_told(self, order, room, book), ("order", list(range(boxes))[::-1]))
            self.assertEqual(order(room, ()), ("order", list(range(boxes))))
            word, ring = check_told(self, order, room, book + (on(boxes - 1, 0),))
            self.assertEqual((word, len(ring)), ("ring", boxes))
            self.assertTrue(all(ring[(at + 1) % boxes] == (box + 1) % boxes for at, box in enumerate(ring)))


if __name__ == "__main__":
    unittest.main()
