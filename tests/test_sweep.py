"""The best of a settled book for a given, the sweep to it, and what is refused."""

import itertools
import unittest

from allelse.bests import bests
from allelse.errors import NotKept, NotSettled
from allelse.hangs import order
from allelse.settled import settled
from allelse.steps import betterings
from allelse.sweep import best, swept
from allelse.ways import lets_way
from support import (
    all_givens, all_standings, check_told, is_plain, kept, not_held, plain_better, plain_hangs, plain_order,
    plain_pairs, plain_steps, put, refusal, rising, row_book, settled_books, shortest_ways, snake, some_books, spoil,
    unlike_at,
)

ROOMS = ((2,), (4,), (2, 2), (3, 2), (2, 4), (2, 2, 2), (2, 3, 2), (2, 2, 2, 2))
GREAT_ROOMS = ((2,) * 8, (4, 4, 4, 4))
UP = ((), 0, 1, 0)
DOWN = ((), 0, 0, 1)
# Box 1 goes with box 0, and box 0 rises.
GOES_WITH = (UP, (((0, 1),), 1, 1, 0), (((0, 0),), 1, 0, 1))
RING = ((((1, 1),), 0, 1, 0), (((1, 0),), 0, 0, 1), (((0, 1),), 1, 1, 0), (((0, 0),), 1, 0, 1))


def unsettled(room):
    told = some_books(room, 8, 3, 50) + [book[1:] for book in settled_books(room, 4, 51)]
    return [book for book in told if settled(room, book) is not None]


class Best(unittest.TestCase):
    def test_written_out(self):
        self.assertEqual(best((2, 2), GOES_WITH, ()), (1, 1))
        self.assertEqual(best((2, 2), GOES_WITH, ((0, 0),)), (0, 0))
        self.assertEqual(best((2, 2), GOES_WITH, ((1, 0),)), (1, 0))
        self.assertEqual(best((2, 2), GOES_WITH, ((0, 0), (1, 1))), (0, 1))
        self.assertEqual(best((2,), (DOWN,), ()), (0,))
        self.assertEqual(best((2,), (DOWN,), ((0, 1),)), (1,))
        self.assertEqual(best((4,), (((), 0, 2, 0), ((), 0, 2, 1), ((), 0, 0, 3)), ()), (2,))

    def test_by_the_order_of_boxes_not_by_their_numbers(self):
        # Box 2 rises, box 1 goes with it, box 0 goes against box 1.
        book = (
            ((), 2, 1, 0), (((2, 1),), 1, 1, 0), (((2, 0),), 1, 0, 1), (((1, 1),), 0, 0, 1), (((1, 0),), 0, 1, 0),
        )
        for row in itertools.permutations(book):
            self.assertEqual(best((2, 2, 2), row, ()), (0, 1, 1))
            self.assertEqual(best((2, 2, 2), row, ((2, 0),)), (1, 0, 0))
            self.assertEqual(best((2, 2, 2), row, ((1, 0),)), (1, 0, 1))
            self.assertEqual(best((2, 2, 2), row, ((0, 1),)), (1, 1, 1))

    def test_the_only_one_of_the_bests_to_which_all_others_lead(self):
        for room in ROOMS:
            for book in settled_books(room, 6, 52):
                leads = plain_steps(room, book)
                for given in all_givens(room):
                    told = best(room, book, given)
                    self.assertEqual(bests(room, book, given), [told])
                    steps = not_held(leads, [box for box, worth in given])
                    self.assertEqual([standing for standing in kept(room, given) if not steps[standing]], [told])
                    better = plain_better(steps)
                    for standing in kept(room, given):
                        self.assertEqual(told in better[standing], standing != told)

    def test_a_given_of_all_boxes(self):
        for room in ROOMS:
            for standing in all_standings(room):
                self.assertEqual(best(room, rising(room), tuple(enumerate(standing))), standing)

    def test_told_anew(self):
        for given in all_givens((2, 2)):
            self.assertIs(type(check_told(self, best, (2, 2), GOES_WITH, given)), tuple)

    def test_great_rooms(self):
        for room in GREAT_ROOMS:
            top = tuple(worths - 1 for worths in room)
            self.assertEqual(best(room, rising(room), ()), top)
            self.assertEqual(best(room, rising(room) * 20, ((1, 0), (3, 1))), put(put(top, 1, 0), 3, 1))
            for book in settled_books(room, 3, 53):
                for given in all_givens(room)[::499]:
                    told = check_told(self, best, room, book, given)
                    self.assertEqual(bests(room, book, given), [told])


class Swept(unittest.TestCase):
    def check(self, room, book, leads, boxes, standing, given):
        """The sweep is as point 18 says, by the steps and by the order of boxes."""
        held = [box for box, worth in given]
        way = swept(room, book, standing, given)
        self.assertIs(type(way), list)
        self.assertEqual((way[0], way[-1]), (standing, best(room, book, given)))
        for here, there in zip(way, way[1:]):
            self.assertIn(there, leads[here])
        at = [unlike_at(here, there)[0] for here, there in zip(way, way[1:])]
        self.assertEqual([box for box in at if box in held], [])
        self.assertEqual(at, sorted(at, key=boxes.index))
        for box in set(at):
            here, there = way[at.index(box)], put(way[at.index(box)], box, way[-1][box])
            steps = not_held(leads, [other for other in boxes if other != box])
            self.assertEqual(at.count(box), len(shortest_ways(steps, here, there)[0]) - 1)
        self.assertLessEqual(len(at), sum(room) - len(room))
        if len(way) > 1:
            self.assertIs(lets_way(room, book, standing, way[-1], way, tuple(held)), True)
        else:
            self.assertEqual(standing, best(room, book, given))

    def test_written_out(self):
        self.assertEqual(swept((2, 2), GOES_WITH, (0, 0), ()), [(0, 0), (1, 0), (1, 1)])
        self.assertEqual(swept((2, 2), GOES_WITH, (0, 1), ()), [(0, 1), (1, 1)])
        self.assertEqual(swept((2, 2), GOES_WITH, (0, 1), ((0, 0),)), [(0, 1), (0, 0)])
        self.assertEqual(swept((2, 2), GOES_WITH, (0, 1), ((1, 1),)), [(0, 1), (1, 1)])
        self.assertEqual(swept((2, 2), GOES_WITH, (0, 0), ((1, 0),)), [(0, 0), (1, 0)])

    def test_the_boxes_in_their_order(self):
        book = (
            ((), 2, 1, 0), (((2, 1),), 1, 1, 0), (((2, 0),), 1, 0, 1), (((1, 1),), 0, 0, 1), (((1, 0),), 0, 1, 0),
        )
        wanted = [(1, 0, 0), (1, 0, 1), (1, 1, 1), (0, 1, 1)]
        self.assertEqual(swept((2, 2, 2), book, (1, 0, 0), ()), wanted)
        self.assertEqual(swept((2, 2, 2), book, (0, 0, 0), ((2, 0),)), [(0, 0, 0), (1, 0, 0)])
        self.assertEqual(swept((2, 2), rising((2, 2)), (0, 0), ()), [(0, 0), (1, 0), (1, 1)])

    def test_as_few_steps_as_can_be(self):
        chain = (((), 0, 1, 0), ((), 0, 2, 1), ((), 0, 3, 2))
        self.assertEqual(swept((4,), chain, (0,), ()), [(0,), (1,), (2,), (3,)])
        for more in itertools.permutations(chain + (((), 0, 3, 1),)):
            self.assertEqual(swept((4,), more, (0,), ()), [(0,), (1,), (3,)])
        for more in itertools.permutations(chain + (((), 0, 3, 0),)):
            self.assertEqual(swept((4,), more, (0,), ()), [(0,), (3,)])
            self.assertEqual(swept((4,), more, (1,), ()), [(1,), (2,), (3,)])

    def test_as_many_steps_as_may_be(self):
        for room in ROOMS + GREAT_ROOMS:
            way = swept(room, rising(room), (0,) * len(room), ())
            self.assertEqual(len(way) - 1, sum(room) - len(room))

    def test_the_best_already(self):
        for room in ROOMS:
            for book in settled_books(room, 3, 54):
                for given in all_givens(room):
                    told = best(room, book, given)
                    self.assertEqual(swept(room, book, told, given), [told])
                for standing in all_standings(room):
                    self.assertEqual(swept(room, book, standing, tuple(enumerate(standing))), [standing])

    def test_against_the_definition(self):
        for room in ROOMS:
            for book in settled_books(room, 4, 55):
                leads = plain_steps(room, book)
                boxes = plain_order(room, plain_hangs(room, plain_pairs(room, leads)))
                for given in all_givens(room):
                    for standing in kept(room, given):
                        self.check(room, book, leads, boxes, standing, given)

    def test_told_anew(self):
        for given in all_givens((2, 2)):
            for standing in kept((2, 2), given):
                check_told(self, swept, (2, 2), GOES_WITH, standing, given)

    def test_great_rooms(self):
        for room in GREAT_ROOMS:
            for book in settled_books(room, 2, 56):
                leads = {standing: betterings(room, book, standing) for standing in all_standings(room)}
                boxes = order(room, book)[1]
                for given in all_givens(room)[::499]:
                    for standing in kept(room, given)[::37]:
                        self.check(room, book, leads, boxes, standing, given)


class Refused(unittest.TestCase):
    def check_why(self, room, book, ask, *more):
        error = refusal(self, ask, room, book, *more)
        self.assertIs(type(error), NotSettled)
        wanted = settled(room, book)
        self.assertEqual(error.why, wanted)
        self.assertTrue(is_plain(error.why), error.why)
        spoil(error.why)
        self.assertEqual(settled(room, book), wanted)
        self.assertEqual(refusal(self, ask, room, book, *more).why, wanted)

    def test_written_out(self):
        self.assertEqual(refusal(self, best, (2,), (), ()).why, ("tops", (0,), 0, [0, 1]))
        self.assertEqual(refusal(self, swept, (2,), (), (0,), ()).why, ("tops", (0,), 0, [0, 1]))
        self.assertEqual(refusal(self, best, (2,), (UP, DOWN), ()).why[:3], ("round", (0,), 0))
        self.assertEqual(refusal(self, swept, (2,), (UP, DOWN), (1,), ()).why[:3], ("round", (0,), 0))
        self.assertEqual(refusal(self, best, (2, 2), RING, ()).why[0], "hangs")
        self.assertEqual(refusal(self, swept, (2, 2), RING, (0, 0), ()).why[0], "hangs")

    def test_each_book_that_is_not_settled(self):
        found = {"hangs": 0, "round": 0, "tops": 0}
        for room in ROOMS:
            for book in unsettled(room) + ([RING] if room == (2, 2) else []):
                found[settled(room, book)[0]] += 1
                for given in all_givens(room)[::4]:
                    self.check_why(room, book, best, given)
                    self.check_why(room, book, swept, all_standings(room)[-1], given)
        self.assertGreater(min(found.values()), 0, found)

    def test_whatever_is_given_and_however_good_the_standing(self):
        # A given of all boxes, or one best standing by chance, makes no book settled.
        self.check_why((2, 2), RING, best, ((0, 1), (1, 1)))
        self.check_why((2, 2), RING, swept, (1, 1), ((0, 1), (1, 1)))
        book = (((), 0, 1, 0), ((), 0, 0, 1), ((), 0, 2, 1))
        self.assertEqual(bests((3,), book, ()), [(2,)])
        self.check_why((3,), book, best, ())
        self.check_why((3,), book, swept, (2,), ())

    def test_not_kept(self):
        for room in ROOMS:
            for book in settled_books(room, 2, 57):
                for given in all_givens(room):
                    for standing in all_standings(room):
                        if standing in kept(room, given):
                            swept(room, book, standing, given)
                        else:
                            self.assertIs(type(refusal(self, swept, room, book, standing, given)), NotKept)

    def test_not_settled_goes_ahead_of_not_kept(self):
        self.check_why((2, 2), RING, swept, (0, 0), ((0, 1),))
        self.check_why((2, 2), (UP,), swept, (0, 0), ((0, 1),))
        self.check_why((2,), (UP, DOWN), swept, (0,), ((0, 1),))
        self.assertIs(type(refusal(self, swept, (2, 2), GOES_WITH, (0, 0), ((0, 1),))), NotKept)

    def test_great_rooms(self):
        for room in GREAT_ROOMS:
            zero = (0,) * len(room)
            self.check_why(room, rising(room)[1:], best, ())
            self.check_why(room, row_book(snake(room)), swept, zero, ((0, 1),))
            self.assertIs(type(refusal(self, swept, room, rising(room), zero, ((0, 0), (1, 1)))), NotKept)


if __name__ == "__main__":
    unittest.main()
