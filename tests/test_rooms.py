"""Rooms, standings, their numbers, a standing changed."""

import itertools
import unittest

from allelse.rooms import changed, is_room, is_small, is_standing, number, standings
from support import GREAT, all_rooms, all_standings, check_told, check_truth, odd_things, spoilt


def size(room):
    many = 1
    for worths in room:
        many *= worths
    return many


def right_room(thing):
    """Whether it is a room, said otherwise than the program says it."""
    if type(thing) is not tuple or [part for part in thing if type(part) is not int]:
        return False
    return thing in ROOMS


ROOMS = {room: True for room in all_rooms()}


class Rooms(unittest.TestCase):
    def test_every_room_is_one(self):
        for room in ROOMS:
            check_truth(self, True, is_room, room)

    def test_tuples_near_by(self):
        for many in range(0, 5):
            for thing in itertools.product((-2, 0, 1, 2, 3, 4, 5), repeat=many):
                check_truth(self, right_room(thing), is_room, thing)

    def test_one_and_eight_boxes(self):
        check_truth(self, False, is_room, ())
        for worths in (2, 3, 4):
            check_truth(self, True, is_room, (worths,))
        check_truth(self, True, is_room, (2,) * 8)
        check_truth(self, False, is_room, (2,) * 9)
        check_truth(self, False, is_room, (2,) * 40000)

    def test_two_and_four_worths(self):
        for worths in (-4, -2, -1, 0, 1, 5, 6, GREAT, -GREAT):
            check_truth(self, False, is_room, (worths,))
            check_truth(self, False, is_room, (2, worths))
            check_truth(self, False, is_room, (worths, 2))
        check_truth(self, False, is_room, (-2, -2))

    def test_256_standings_and_just_beyond(self):
        for room in ((4, 4, 4, 4), (2,) * 8, (4, 4, 4, 2, 2), (2, 2, 2, 2, 4, 4)):
            check_truth(self, True, is_room, room)
        for room in ((4, 4, 4, 3, 2), (3, 3, 3, 3, 4), (2, 2, 2, 2, 2, 3, 3), (4, 4, 4, 4, 2), (2,) * 7 + (3,)):
            check_truth(self, False, is_room, room)
        check_truth(self, True, is_room, (3, 3, 3, 3, 3))
        check_truth(self, True, is_room, (4, 4, 4, 3))
        check_truth(self, True, is_room, (4, 4, 3, 3))

    def test_of_anything(self):
        for thing in odd_things():
            check_truth(self, right_room(thing), is_room, thing)
        for room in ((2,), (4, 4, 4, 4), (2, 3, 4), (2,) * 8):
            for thing in spoilt(room):
                check_truth(self, right_room(thing), is_room, thing)

    def test_small_rooms(self):
        for room in ROOMS:
            check_truth(self, size(room) <= 64, is_small, room)
        check_truth(self, True, is_small, (4, 4, 4))
        check_truth(self, True, is_small, (2,) * 6)
        check_truth(self, False, is_small, (2, 2, 2, 3, 3))
        check_truth(self, False, is_small, (4, 4, 4, 2))


class Standings(unittest.TestCase):
    def test_all_standings_of_every_room_with_their_numbers(self):
        for room in ROOMS:
            told = standings(room)
            self.assertIs(type(told), list)
            self.assertEqual(told, all_standings(room))
            self.assertEqual(told, sorted(told))
            self.assertEqual([number(room, standing) for standing in told], list(range(size(room))))

    def test_written_out(self):
        self.assertEqual(standings((2,)), [(0,), (1,)])
        self.assertEqual(standings((2, 3)), [(0, 0), (0, 1), (0, 2), (1, 0), (1, 1), (1, 2)])
        self.assertEqual(number((2, 3), (1, 0)), 3)
        self.assertEqual(number((4, 4, 4, 4), (3, 3, 3, 3)), 255)
        self.assertEqual(number((2, 3, 4), (1, 2, 1)), 21)

    def test_a_told_list_is_new(self):
        for room in ((2,), (2, 3), (4, 4, 4, 4)):
            check_told(self, standings, room)

    def test_numbers_are_whole_numbers(self):
        self.assertIs(type(number((2,), (0,))), int)
        self.assertIs(type(number((2, 2), (0, 1))), int)

    def test_rooms_somewhat_beyond_are_not_refused(self):
        room = (2,) * 9
        self.assertEqual(standings(room), all_standings(room))
        self.assertEqual(number((4,) * 16, (3,) * 16), 4 ** 16 - 1)
        check_truth(self, True, is_standing, (4,) * 16, (3,) * 16)

    def test_every_standing_is_one(self):
        for room in ((2,), (3,), (4,), (2, 3), (4, 2, 3), (2,) * 8, (4, 4, 4, 4)):
            for standing in all_standings(room):
                check_truth(self, True, is_standing, room, standing)

    def test_tuples_near_by(self):
        for room in ((2,), (4,), (2, 3), (3, 2), (2, 3, 2)):
            right = all_standings(room)
            for many in range(0, 5):
                for thing in itertools.product((-1, 0, 1, 2, 3, 4), repeat=many):
                    check_truth(self, thing in right, is_standing, room, thing)

    def test_of_anything(self):
        for room in ((2,), (3, 2), (2, 2, 2), (2,) * 8):
            right = [repr(standing) for standing in all_standings(room)]
            things = odd_things()
            for standing in all_standings(room)[:3] + all_standings(room)[-3:]:
                things += spoilt(standing)
            for thing in things:
                check_truth(self, repr(thing) in right, is_standing, room, thing)


class Changed(unittest.TestCase):
    def test_changed_at_each_box_to_each_worth(self):
        for room in ((2,), (4,), (2, 3), (3, 2, 4), (2,) * 8):
            for standing in all_standings(room):
                for box in range(len(room)):
                    for worth in range(room[box]):
                        told = changed(standing, box, worth)
                        wanted = list(standing)
                        wanted[box] = worth
                        self.assertEqual(told, tuple(wanted))
                        self.assertIs(type(told), tuple)

    def test_written_out(self):
        self.assertEqual(changed((0, 1, 2), 0, 1), (1, 1, 2))
        self.assertEqual(changed((0, 1, 2), 1, 1), (0, 1, 2))
        self.assertEqual(changed((0, 1, 2), 2, 0), (0, 1, 0))

    def test_the_standing_itself_stays(self):
        check_told(self, changed, (0, 1, 2), 1, 0)


if __name__ == "__main__":
    unittest.main()
