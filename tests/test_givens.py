"""Givens, and which standings keep them."""

import itertools
import unittest

from allelse.givens import is_given, keeping, keeps
from support import GREAT, all_givens, all_standings, check_told, check_truth, odd_things, spoilt

SOME_ROOMS = ((2,), (4,), (2, 3), (3, 2, 2), (2, 4, 2))


class Givens(unittest.TestCase):
    def test_every_given_is_one(self):
        for room in SOME_ROOMS + ((2,) * 8,):
            for given in all_givens(room):
                check_truth(self, True, is_given, room, given)

    def test_of_none_and_of_all_boxes(self):
        for room in SOME_ROOMS + ((2,) * 8, (4, 4, 4, 4)):
            check_truth(self, True, is_given, room, ())
            for standing in (all_standings(room)[0], all_standings(room)[-1]):
                given = tuple(enumerate(standing))
                check_truth(self, True, is_given, room, given)
                check_truth(self, False, is_given, room, given + ((len(room), 0),))
                check_truth(self, False, is_given, room, given + (given[-1],))

    def test_rows_of_pairs_near_by(self):
        for room in ((2,), (2, 3), (3, 2)):
            right = all_givens(room)
            pairs = list(itertools.product((-1, 0, 1, 2), (-1, 0, 1, 2, 3)))
            for many in range(0, 4 if len(room) == 1 else 3):
                for thing in itertools.product(pairs, repeat=many):
                    check_truth(self, thing in right, is_given, room, thing)

    def test_boxes_rise_and_stand_once(self):
        room = (2, 3, 2)
        check_truth(self, True, is_given, room, ((0, 1), (2, 0)))
        check_truth(self, False, is_given, room, ((2, 0), (0, 1)))
        check_truth(self, False, is_given, room, ((1, 1), (1, 2)))
        check_truth(self, False, is_given, room, ((1, 1), (1, 1)))
        check_truth(self, False, is_given, room, ((0, 0), (1, 1), (1, 2)))
        check_truth(self, False, is_given, room, ((0, 0), (2, 1), (1, 0)))

    def test_numbers_out_of_the_room(self):
        room = (2, 3)
        for box in (-2, -1, 2, 3, GREAT, -GREAT):
            check_truth(self, False, is_given, room, ((box, 0),))
        for worth in (-1, 3, GREAT, -GREAT):
            check_truth(self, False, is_given, room, ((1, worth),))
        check_truth(self, False, is_given, room, ((0, 2),))
        check_truth(self, True, is_given, room, ((1, 2),))

    def test_of_anything(self):
        for room in SOME_ROOMS:
            right = [repr(given) for given in all_givens(room)]
            things = odd_things()
            for given in all_givens(room):
                things += spoilt(given)
            for thing in things:
                check_truth(self, repr(thing) in right, is_given, room, thing)

    def test_of_wide_rooms(self):
        room = (2,) * 16
        check_truth(self, True, is_given, room, tuple((box, 1) for box in range(16)))
        check_truth(self, False, is_given, room, ((16, 0),))


class Keeping(unittest.TestCase):
    def test_keeps_and_keeping(self):
        for room in SOME_ROOMS:
            for given in all_givens(room):
                kept = []
                for standing in all_standings(room):
                    wanted = [standing[box] for box, worth in given] == [worth for box, worth in given]
                    check_truth(self, wanted, keeps, standing, given)
                    kept += [standing] if wanted else []
                self.assertEqual(keeping(room, given), kept)

    def test_written_out(self):
        check_truth(self, True, keeps, (0, 2), ())
        check_truth(self, True, keeps, (0, 2), ((1, 2),))
        check_truth(self, False, keeps, (0, 2), ((0, 1), (1, 2)))
        check_truth(self, False, keeps, (0, 2), ((0, 0), (1, 1)))
        self.assertEqual(keeping((2, 3), ((1, 2),)), [(0, 2), (1, 2)])
        self.assertEqual(keeping((2, 3), ((0, 1),)), [(1, 0), (1, 1), (1, 2)])
        self.assertEqual(keeping((2, 3), ((0, 1), (1, 0))), [(1, 0)])

    def test_none_and_all_boxes_of_great_rooms(self):
        for room in ((2,) * 8, (4, 4, 4, 4), (2,), (4,)):
            self.assertEqual(keeping(room, ()), all_standings(room))
            for standing in all_standings(room)[::17]:
                self.assertEqual(keeping(room, tuple(enumerate(standing))), [standing])

    def test_a_told_list_is_new(self):
        check_told(self, keeping, (2, 3), ())
        check_told(self, keeping, (2, 3), ((1, 2),))
        check_told(self, keeping, (2, 3), ((0, 1), (1, 0)))


if __name__ == "__main__":
    unittest.main()
