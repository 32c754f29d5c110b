"""Grounds, givens that lie in them, and wide ones."""

import itertools
import random
import unittest

from allelse.errors import TooMany
from allelse.grounds import grounds, lies_in, wide_givens
from support import (
    GREAT, all_standings, check_told, check_truth, givens_without, grounds_book, is_kept, odd_things, plain_grounds,
    plain_lies, plain_steps, plain_wide, refusal, settled_books, some_books,
)

ROOMS = ((2,), (4,), (2, 2), (3, 2), (2, 4), (2, 2, 2), (3, 2, 2), (2, 2, 2, 2))
SMALL_ROOMS = ((2,) * 6, (4, 4, 4))
GREAT_ROOMS = ((2,) * 7, (3, 3, 3, 3), (4, 4, 4, 2), (2,) * 8, (4, 4, 4, 4))
UP = ((), 0, 1, 0)


def changes(room):
    """Every box with two unlike worths of it."""
    return [(box, better, worse) for box, worths in enumerate(room)
            for better, worse in itertools.permutations(range(worths), 2)]


def some_grounds(room, box, worse, many, seed):
    """Rising lists of standings that have worse at the box."""
    chance = random.Random(seed)
    whole = [standing for standing in all_standings(room) if standing[box] == worse]
    told = [[], whole, whole[1:], whole[:1]]
    return told + [[one for one in whole if chance.random() < 0.6] for _ in range(many)]


class Grounds(unittest.TestCase):
    def test_written_out(self):
        book = (UP, (((0, 1),), 1, 1, 0), (((0, 0),), 1, 0, 1))
        self.assertEqual(grounds((2, 2), book, 0, 1, 0), [(0, 0), (0, 1)])
        self.assertEqual(grounds((2, 2), book, 0, 0, 1), [])
        self.assertEqual(grounds((2, 2), book, 1, 1, 0), [(1, 0)])
        self.assertEqual(grounds((2, 2), book, 1, 0, 1), [(0, 1)])

    def test_better_and_worse_are_not_exchanged(self):
        book = (((), 0, 2, 1),)
        self.assertEqual(grounds((3,), book, 0, 2, 1), [(1,)])
        for better, worse in ((1, 2), (2, 0), (0, 2), (1, 0), (0, 1)):
            self.assertEqual(grounds((3,), book, 0, better, worse), [])

    def test_steps_put_together_are_no_grounds(self):
        book = (((), 0, 1, 0), ((), 0, 2, 1))
        self.assertEqual(grounds((3,), book, 0, 2, 0), [])

    def test_without_wishes_and_with_wishes_alike(self):
        for room in ROOMS + SMALL_ROOMS:
            for box, better, worse in changes(room):
                self.assertEqual(grounds(room, (), box, better, worse), [])
            whole = [standing for standing in all_standings(room) if standing[0] == 0]
            self.assertEqual(grounds(room, (UP,) * 600, 0, 1, 0), whole)

    def test_against_the_definition(self):
        many = 0
        for room in ROOMS:
            for book in some_books(room, 8, 4, 80) + some_books(room, 4, 20, 81) + settled_books(room, 3, 82):
                leads = plain_steps(room, book)
                for box, better, worse in changes(room):
                    wanted = plain_grounds(leads, box, better, worse)
                    self.assertEqual(check_told(self, grounds, room, book, box, better, worse), wanted)
                    many += len(wanted)
        self.assertGreater(many, 500)

    def test_more_than_twelve(self):
        for room in SMALL_ROOMS:
            whole = [standing for standing in all_standings(room) if standing[0] == 0]
            self.assertGreater(len(whole), 12)
            self.assertEqual(check_told(self, grounds, room, grounds_book(whole[::-1], 0, 1), 0, 1, 0), whole)


class LiesIn(unittest.TestCase):
    def test_written_out(self):
        some = [(0, 0, 1), (0, 1, 0), (0, 1, 1)]
        check_truth(self, True, lies_in, (2, 2, 2), some, 0, 0, ((1, 1),))
        check_truth(self, True, lies_in, (2, 2, 2), some, 0, 0, ((2, 1),))
        check_truth(self, True, lies_in, (2, 2, 2), some, 0, 0, ((1, 0), (2, 1)))
        check_truth(self, False, lies_in, (2, 2, 2), some, 0, 0, ((1, 0),))
        check_truth(self, False, lies_in, (2, 2, 2), some, 0, 0, ((1, 0), (2, 0)))
        check_truth(self, False, lies_in, (2, 2, 2), some, 0, 0, ())

    def test_a_given_of_none(self):
        for room in ROOMS:
            for box, better, worse in changes(room):
                whole = [standing for standing in all_standings(room) if standing[box] == worse]
                check_truth(self, True, lies_in, room, whole, box, worse, ())
                check_truth(self, False, lies_in, room, whole[1:], box, worse, ())
                check_truth(self, False, lies_in, room, whole[:-1], box, worse, ())

    def test_a_box_in_the_midst(self):
        check_truth(self, True, lies_in, (2, 2, 2), [(0, 1, 0)], 1, 1, ((0, 0), (2, 0)))
        check_truth(self, False, lies_in, (2, 2, 2), [(0, 1, 0)], 1, 1, ((0, 0),))
        check_truth(self, True, lies_in, (2, 2, 2), [(0, 1, 0), (0, 1, 1)], 1, 1, ((0, 0),))

    def test_no_grounds(self):
        for room in ROOMS:
            for given in givens_without(room, 0):
                check_truth(self, False, lies_in, room, [], 0, 0, given)

    def test_against_the_definition(self):
        found = {True: 0, False: 0}
        for room in ROOMS:
            for box in range(len(room)):
                for worse in range(room[box]):
                    for some in some_grounds(room, box, worse, 4, 83):
                        for given in givens_without(room, box):
                            wanted = plain_lies(room, some, box, worse, given)
                            check_truth(self, wanted, lies_in, room, some, box, worse, given)
                            found[wanted] += 1
        self.assertGreater(min(found.values()), 1000)


class WideGivens(unittest.TestCase):
    def test_written_out(self):
        some = [(0, 0, 1), (0, 1, 0), (0, 1, 1)]
        self.assertEqual(wide_givens((2, 2, 2), some, 0, 0, (0, 0, 1)), [((2, 1),)])
        self.assertEqual(wide_givens((2, 2, 2), some, 0, 0, (0, 1, 0)), [((1, 1),)])
        self.assertEqual(wide_givens((2, 2, 2), some, 0, 0, (0, 1, 1)), [((1, 1),), ((2, 1),)])
        self.assertEqual(wide_givens((2, 2, 2), [(0, 1, 1)], 0, 0, (0, 1, 1)), [((1, 1), (2, 1))])

    def test_rising(self):
        # ((1, 0), (2, 0)) goes ahead of ((1, 0), (3, 0)) and that ahead of ((2, 0), (3, 0)).
        some = [(0, 0, 0, 0), (0, 0, 0, 1), (0, 0, 1, 0), (0, 1, 0, 0)]
        wanted = [((1, 0), (2, 0)), ((1, 0), (3, 0)), ((2, 0), (3, 0))]
        self.assertEqual(wide_givens((2, 2, 2, 2), some, 0, 0, (0, 0, 0, 0)), wanted)

    def test_a_given_of_none(self):
        for room in ROOMS + SMALL_ROOMS:
            whole = [standing for standing in all_standings(room) if standing[0] == 1]
            for ground in whole:
                self.assertEqual(wide_givens(room, whole, 0, 1, ground), [()])

    def test_against_the_definition(self):
        many = {}
        for room in ROOMS:
            for box in range(len(room)):
                for worse in range(room[box]):
                    for some in some_grounds(room, box, worse, 5, 84):
                        wide = plain_wide(room, some, box, worse)
                        for ground in some:
                            wanted = [given for given in wide if is_kept(ground, given)]
                            told = check_told(self, wide_givens, room, some, box, worse, ground)
                            self.assertEqual(told, wanted)
                            many[len(told)] = many.get(len(told), 0) + 1
        self.assertGreater(min(many[number] for number in (1, 2, 3)), 30, many)

    def test_rooms_of_sixty_four(self):
        for room in SMALL_ROOMS:
            for some in some_grounds(room, 1, 1, 2, 85):
                wide = plain_wide(room, some, 1, 1)
                for ground in some[::5]:
                    wanted = [given for given in wide if is_kept(ground, given)]
                    self.assertEqual(check_told(self, wide_givens, room, some, 1, 1, ground), wanted)


class Refused(unittest.TestCase):
    def test_rooms_that_are_not_small(self):
        for room in GREAT_ROOMS:
            zero = (0,) * len(room)
            self.assertIs(type(refusal(self, grounds, room, (), 0, 1, 0)), TooMany)
            self.assertIs(type(refusal(self, grounds, room, (UP,), 0, 1, 0)), TooMany)
            self.assertIs(type(refusal(self, lies_in, room, [zero], 0, 0, ((1, 0),))), TooMany)
            self.assertIs(type(refusal(self, lies_in, room, [], 0, 0, ())), TooMany)
            self.assertIs(type(refusal(self, wide_givens, room, [zero], 0, 0, zero)), TooMany)
            self.assertIs(type(refusal(self, wide_givens, room, [], 0, 0, zero)), TooMany)

    def test_whatever_else_is_handed_in(self):
        for thing in odd_things():
            for ask in (grounds, lies_in, wide_givens):
                self.assertIs(type(refusal(self, ask, (2,) * 7, thing, thing, thing, thing)), TooMany)
                self.assertIs(type(refusal(self, ask, (2,) * 7, thing, 0, 1, 0)), TooMany)
                self.assertIs(type(refusal(self, ask, (2,) * 7, (), GREAT, thing, 0)), TooMany)

    def test_nowhere_else(self):
        # Neither many wishes nor many grounds are refused here.
        room = (2,) * 6
        whole = [standing for standing in all_standings(room) if standing[0] == 0]
        self.assertEqual(grounds(room, (UP,) * 600, 0, 1, 0), whole)
        check_truth(self, True, lies_in, room, whole, 0, 0, ((5, 1),))
        self.assertEqual(wide_givens(room, whole, 0, 0, whole[-1]), [()])


if __name__ == "__main__":
    unittest.main()
