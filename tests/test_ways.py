"""Ways, reached standings, what is told of two standings, standings compared, a way looked at."""

import unittest

from allelse.sets import lets_shut
from allelse.ways import compared, lets_way, reached, told
from support import (
    GREAT, all_held, all_standings, check_told, check_truth, not_held, odd_things, plain_better,
    plain_steps, right_way, row_book, shortest_ways, snake, some_books, spoilt,
)

ROOMS = ((2,), (3,), (4,), (2, 2), (2, 3), (2, 2, 2), (3, 2, 2))
GREAT_ROOMS = ((2,) * 8, (4, 4, 4, 4), (4, 2, 4, 2, 2, 2))
# From (0, 0) on: to (1, 0) and (0, 1), from both to (1, 1), from there round to (0, 1).
BOOK = (((), 0, 1, 0), (((0, 0),), 1, 1, 0), (((0, 1),), 1, 1, 0), (((1, 1),), 0, 0, 1))


def books(room):
    return some_books(room, 10, 4, 4) + some_books(room, 8, 9, 5) + some_books(room, 3, 30, 6)


class Told(unittest.TestCase):
    def test_written_out(self):
        room = (2, 2)
        self.assertEqual(told(room, BOOK, (0, 0), (1, 1)), ("better", [(0, 0), (0, 1), (1, 1)]))
        self.assertEqual(told(room, BOOK, (0, 0), (1, 0)), ("better", [(0, 0), (1, 0)]))
        self.assertEqual(told(room, BOOK, (1, 0), (0, 1)), ("better", [(1, 0), (1, 1), (0, 1)]))
        self.assertEqual(told(room, BOOK, (1, 1), (0, 0)), ("not", [(0, 1), (1, 1)]))
        self.assertEqual(told(room, BOOK, (1, 0), (0, 0)), ("not", [(0, 1), (1, 0), (1, 1)]))

    def test_a_way_round(self):
        room = (2, 2)
        self.assertEqual(told(room, BOOK, (1, 1), (1, 1)), ("better", [(1, 1), (0, 1), (1, 1)]))
        self.assertEqual(told(room, BOOK, (0, 0), (0, 0)), ("not", all_standings(room)))
        self.assertEqual(told(room, (), (0, 1), (0, 1)), ("not", [(0, 1)]))

    def test_a_way_round_through_all_standings(self):
        for room in GREAT_ROOMS:
            row = snake(room)
            self.assertEqual(told(room, row_book(row + row[:1]), row[7], row[7]), ("better", row[7:] + row[:8]))

    def test_a_shorter_way_goes_ahead_of_a_lesser_one(self):
        book = (((), 0, 1, 0), ((), 0, 2, 1), ((), 0, 3, 2), ((), 0, 3, 0))
        self.assertEqual(told((4,), book, (0,), (3,)), ("better", [(0,), (3,)]))
        self.assertEqual(told((4,), book[:3], (0,), (3,)), ("better", [(0,), (1,), (2,), (3,)]))

    def test_the_least_of_several_ways_goes_by_its_first_steps(self):
        # Two ways of three steps: the lesser one begins with the lesser standing, though its next is the greater.
        room = (4, 4)
        first = [(0, 0), (0, 1), (3, 1), (3, 2)]
        second = [(0, 0), (1, 0), (1, 2), (3, 2)]
        for rows in ((first, second), (second, first)):
            book = row_book(rows[0]) + row_book(rows[1])
            self.assertEqual(told(room, book, (0, 0), (3, 2)), ("better", first))

    def test_against_the_definition(self):
        for room in ROOMS:
            for book in books(room):
                self.check_pairs(room, book, (None,))

    def test_held_boxes(self):
        for room in ROOMS:
            for book in books(room)[::3]:
                self.check_pairs(room, book, all_held(room))

    def check_pairs(self, room, book, every):
        steps = plain_steps(room, book)
        for held in every:
            leads = not_held(steps, held or ())
            better = plain_better(leads)
            for one in leads:
                for other in leads:
                    answer = check_told(self, told, room, book, one, other, held)
                    self.assertIs(type(answer[1]), list)
                    if other in better[one]:
                        self.assertEqual(answer, ("better", min(shortest_ways(leads, one, other))))
                        check_truth(self, True, lets_way, room, book, one, other, answer[1], held)
                    else:
                        self.assertEqual(answer, ("not", sorted(better[one] | {one})))
                        check_truth(self, True, lets_shut, room, book, one, other, answer[1], held)

    def test_held_left_out_and_none_and_no_boxes_are_one(self):
        for one in all_standings((2, 2)):
            for other in all_standings((2, 2)):
                answer = told((2, 2), BOOK, one, other)
                self.assertEqual(told((2, 2), BOOK, one, other, None), answer)
                self.assertEqual(told((2, 2), BOOK, one, other, ()), answer)

    def test_all_boxes_held(self):
        for one in all_standings((2, 2)):
            for other in all_standings((2, 2)):
                self.assertEqual(told((2, 2), BOOK, one, other, (0, 1)), ("not", [one]))

    def test_a_way_through_all_standings(self):
        for room in GREAT_ROOMS:
            row = snake(room)
            self.assertEqual(len(row), 256)
            book = row_book(row)
            self.assertEqual(told(room, book, row[0], row[-1]), ("better", row))
            self.assertEqual(told(room, book, row[-1], row[0]), ("not", [row[-1]]))
            self.assertEqual(told(room, book, row[1], row[0]), ("not", sorted(row[1:])))
            self.assertEqual(told(room, book, row[0], row[0]), ("not", sorted(row)))
            check_truth(self, True, lets_way, room, book, row[0], row[-1], row)

    def test_great_books(self):
        room = (2,) * 8
        book = tuple(((), box, 1, 0) for box in range(8)) * 75
        way = [(0,) * (8 - many) + (1,) * many for many in range(9)]
        self.assertEqual(len(book), 600)
        self.assertEqual(told(room, book, way[0], way[-1]), ("better", way))
        self.assertEqual(told(room, book, way[-1], way[0]), ("not", [way[-1]]))


class Reached(unittest.TestCase):
    def test_written_out(self):
        self.assertEqual(reached((2, 2), BOOK, (0, 0)), all_standings((2, 2)))
        self.assertEqual(reached((2, 2), BOOK, (1, 1)), [(0, 1), (1, 1)])
        self.assertEqual(reached((2, 2), BOOK, (0, 0), (0,)), [(0, 0), (0, 1)])
        self.assertEqual(reached((2, 2), BOOK, (0, 0), (0, 1)), [(0, 0)])
        self.assertEqual(reached((2, 2), (), (1, 0)), [(1, 0)])

    def test_against_the_definition(self):
        for room in ROOMS:
            for book in books(room):
                steps = plain_steps(room, book)
                for held in all_held(room):
                    better = plain_better(not_held(steps, held))
                    for standing in steps:
                        answer = check_told(self, reached, room, book, standing, held)
                        self.assertIs(type(answer), list)
                        self.assertEqual(answer, sorted(better[standing] | {standing}))

    def test_held_left_out_and_none_and_no_boxes_are_one(self):
        for standing in all_standings((2, 2)):
            answer = reached((2, 2), BOOK, standing)
            self.assertEqual(reached((2, 2), BOOK, standing, None), answer)
            self.assertEqual(reached((2, 2), BOOK, standing, ()), answer)

    def test_all_standings_of_great_rooms(self):
        for room in GREAT_ROOMS:
            row = snake(room)
            self.assertEqual(reached(room, row_book(row), row[0]), all_standings(room))
            self.assertEqual(reached(room, row_book(row), row[200]), sorted(row[200:]))


class Compared(unittest.TestCase):
    def test_each_word(self):
        room = (2, 2)
        self.assertEqual(compared(room, BOOK, (0, 0), (1, 1)), "better")
        self.assertEqual(compared(room, BOOK, (1, 1), (0, 0)), "worse")
        self.assertEqual(compared(room, BOOK, (0, 1), (1, 1)), "both")
        self.assertEqual(compared(room, BOOK, (1, 1), (0, 1)), "both")
        self.assertEqual(compared(room, BOOK[:1], (0, 0), (1, 1)), "apart")
        self.assertEqual(compared(room, (), (0, 0), (0, 0)), "same")

    def test_the_same_standing_on_a_ring_is_same(self):
        self.assertEqual(compared((2, 2), BOOK, (1, 1), (1, 1)), "same")

    def test_against_the_definition(self):
        words = {(True, True): "both", (True, False): "better", (False, True): "worse", (False, False): "apart"}
        for room in ROOMS:
            for book in books(room):
                better = plain_better(plain_steps(room, book))
                for one in better:
                    for other in better:
                        wanted = words[(other in better[one], one in better[other])]
                        answer = check_told(self, compared, room, book, one, other)
                        self.assertEqual(answer, "same" if one == other else wanted)

    def test_great_rooms(self):
        for room in GREAT_ROOMS:
            row = snake(room)
            self.assertEqual(compared(room, row_book(row), row[0], row[-1]), "better")
            self.assertEqual(compared(room, row_book(row), row[-1], row[0]), "worse")
            self.assertEqual(compared(room, row_book(row + row[:1]), row[-1], row[3]), "both")


class LetsWay(unittest.TestCase):
    def check(self, room, book, one, other, things, held=None):
        leads = not_held(plain_steps(room, book), held or ())
        for thing in things:
            check_truth(self, right_way(room, leads, one, other, thing), lets_way, room, book, one, other, thing, held)

    def test_written_out(self):
        room = (2, 2)
        way = [(0, 0), (1, 0), (1, 1)]
        check_truth(self, True, lets_way, room, BOOK, (0, 0), (1, 1), way)
        check_truth(self, True, lets_way, room, BOOK, (0, 0), (1, 1), [(0, 0), (0, 1), (1, 1), (0, 1), (1, 1)])
        check_truth(self, False, lets_way, room, BOOK, (0, 0), (1, 1), [(0, 0), (1, 1)])
        check_truth(self, False, lets_way, room, BOOK, (0, 0), (0, 1), way)
        check_truth(self, False, lets_way, room, BOOK, (1, 0), (1, 1), way)
        check_truth(self, False, lets_way, room, BOOK, (1, 1), (0, 0), way[::-1])
        check_truth(self, False, lets_way, room, (), (0, 0), (1, 1), way)
        check_truth(self, False, lets_way, room, BOOK, (0, 0), (1, 1), tuple(way))

    def test_one_standing_or_none_is_not_let_by(self):
        for book in (BOOK, ()):
            for one in all_standings((2, 2)):
                check_truth(self, False, lets_way, (2, 2), book, one, one, [one])
                check_truth(self, False, lets_way, (2, 2), book, one, one, [])

    def test_standing_still_is_no_step(self):
        check_truth(self, False, lets_way, (2, 2), BOOK, (0, 0), (0, 0), [(0, 0), (0, 0)])
        check_truth(self, False, lets_way, (2, 2), BOOK, (0, 0), (1, 0), [(0, 0), (0, 0), (1, 0)])

    def test_steps_at_held_boxes(self):
        way = [(0, 0), (1, 0), (1, 1)]
        for held in ((0,), (1,), (0, 1)):
            check_truth(self, False, lets_way, (2, 2), BOOK, (0, 0), (1, 1), way, held)
        check_truth(self, True, lets_way, (2, 2), BOOK, (0, 0), (1, 0), way[:2], (1,))
        check_truth(self, False, lets_way, (2, 2), BOOK, (0, 0), (1, 0), way[:2], (0,))
        check_truth(self, True, lets_way, (2, 2), BOOK, (0, 0), (1, 1), way, ())
        check_truth(self, True, lets_way, (2, 2), BOOK, (0, 0), (1, 1), way, None)

    def test_all_rows_of_standings_near_by(self):
        for room in ((2,), (3,), (2, 2)):
            rows = [[]]
            things = []
            for _ in range(4):
                rows = [row + [there] for row in rows for there in all_standings(room)]
                things += rows
            for book in books(room)[::4]:
                for held in all_held(room):
                    for one in all_standings(room):
                        self.check(room, book, one, all_standings(room)[-1], things, held)

    def test_of_anything(self):
        things = odd_things()
        for way in ([(0, 0), (0, 1), (1, 1)], [(0, 0), (1, 0), (1, 1)], [(1, 1), (0, 1), (1, 1)]):
            self.check((2, 2), BOOK, way[0], way[-1], things + [way] + spoilt(way))
        self.check((2,), (((), 0, 1, 0),), (0,), (1,), things + spoilt([(0,), (1,)]))
        self.check((2,), (((), 0, 1, 0),), (0,), (0,), things)

    def test_truths_are_no_worths(self):
        for way in ([(0, 0), (1, 0), (True, 1)], [(False, 0), (1, 0), (1, 1)], [(0, 0), (1, False), (1, 1)]):
            check_truth(self, False, lets_way, (2, 2), BOOK, (0, 0), (1, 1), way)
        for way in ([(0, 0), (GREAT, 0), (1, 1)], [(0, 0), (1, 0, 0), (1, 1)], [(0, 0), [1, 0], (1, 1)]):
            check_truth(self, False, lets_way, (2, 2), BOOK, (0, 0), (1, 1), way)

    def test_long_rows(self):
        book = (((), 0, 1, 0), ((), 0, 0, 1)) * 300
        row = [(0,), (1,)] * 12000
        check_truth(self, True, lets_way, (2,), book, (0,), (1,), row)
        check_truth(self, False, lets_way, (2,), book, (0,), (1,), row[:12000] + row[12001:])


if __name__ == "__main__":
    unittest.main()
