"""Least covers of grounds, the trees that show that no fewer do, and trees looked at."""

import itertools
import random
import unittest

from allelse.cover import cover, lets_tree
from allelse.errors import TooMany
from support import (
    all_standings, check_told, check_truth, givens_without, grounds_book, is_kept, least_many, made_tree, odd_things,
    plain_lies, plain_wide, refusal, right_tree, some_books, spoilt, swaps,
)

ROOMS = ((2,), (4,), (2, 2), (3, 2), (2, 4), (2, 2, 2), (3, 2, 2), (2, 2, 2, 2))
GREAT_ROOMS = ((2,) * 7, (3, 3, 3, 3), (4, 4, 4, 2), (2,) * 8, (4, 4, 4, 4))
UP = ((), 0, 1, 0)
# Grounds in the room (2, 2, 2): two givens are wide, and the last ground keeps both.
BENT = [(0, 0, 1), (0, 1, 0), (0, 1, 1)]
# Grounds in the room (2, 2, 2, 2): six of them in a ring, each two neighbours a wide given; three are a least cover.
HEXAGON = [(0, 0, 0, 1), (0, 0, 1, 0), (0, 0, 1, 1), (0, 1, 0, 0), (0, 1, 0, 1), (0, 1, 1, 0)]


def first(still):
    return still[0]


def last(still):
    return still[-1]


def rather(ground):
    """A pick of this ground, where it is open."""
    return lambda still: ground if ground in still else still[0]


def some_grounds(room, box, worse, many, seed):
    """Rising lists of at most twelve standings that have worse at the box."""
    chance = random.Random(seed)
    whole = [standing for standing in all_standings(room) if standing[box] == worse]
    told = [[], whole[:12], whole[1:13], whole[:1]]
    for _ in range(many):
        told.append(sorted(chance.sample(whole, chance.randint(1, min(12, len(whole))))))
    return told


class Cover(unittest.TestCase):
    def check(self, room, some, box, better, worse, more=()):
        """What is told of a book that has these grounds there is as point 23 says; told is how many givens."""
        book = grounds_book(some, box, better) + tuple(more)
        told = check_told(self, cover, room, book, box, better, worse)
        self.assertEqual((type(told), len(told)), (tuple, 2))
        givens, tree = told
        self.assertIs(type(givens), list)
        lying = [given for given in givens_without(room, box) if plain_lies(room, some, box, worse, given)]
        self.assertEqual([given for given in givens if repr(given) not in [repr(one) for one in lying]], [])
        for ground in some:
            self.assertTrue([given for given in givens if is_kept(ground, given)], ground)
        wide = plain_wide(room, some, box, worse)
        self.assertEqual(len(givens), least_many(some, wide))
        if some:
            self.assertTrue(right_tree(wide, some, len(givens) - 1, tree), tree)
            check_truth(self, True, lets_tree, room, book, box, better, worse, len(givens) - 1, tree)
        else:
            self.assertEqual((givens, tree), ([], None))
        return len(givens)

    def test_written_out(self):
        self.assertEqual(cover((2,), (UP,), 0, 1, 0), ([()], ((0,), [])))
        self.assertEqual(cover((2, 2), ((((1, 1),), 0, 1, 0),), 0, 1, 0), ([((1, 1),)], ((0, 1), [])))
        givens, tree = cover((2, 2, 2), grounds_book(BENT, 0, 1), 0, 1, 0)
        self.assertEqual(sorted(givens), [((1, 1),), ((2, 1),)])
        trees = [
            ((0, 0, 1), [(((2, 1),), ((0, 1, 0), []))]),
            ((0, 1, 0), [(((1, 1),), ((0, 0, 1), []))]),
            ((0, 1, 1), [(((1, 1),), ((0, 0, 1), [])), (((2, 1),), ((0, 1, 0), []))]),
        ]
        self.assertIn(tree, trees)
        for tree in trees:
            check_truth(self, True, lets_tree, (2, 2, 2), grounds_book(BENT, 0, 1), 0, 1, 0, 1, tree)

    def test_no_grounds(self):
        for room in ROOMS:
            self.assertEqual(check_told(self, cover, room, (), 0, 1, 0), ([], None))
            self.assertEqual(check_told(self, cover, room, (((), 0, 0, 1),), 0, 1, 0), ([], None))

    def test_fewer_than_a_book_says(self):
        parts = tuple((((1, worth),), 0, 1, 0) for worth in range(4))
        self.assertEqual(cover((2, 4), parts, 0, 1, 0)[0], [()])
        self.assertEqual(len(cover((2, 4), parts[1:], 0, 1, 0)[0]), 3)

    def test_the_least_is_not_what_is_grabbed_first(self):
        # Four grounds in the midst keep one given, the widest; each has a neighbour, and with it another given.
        room = (2,) * 5
        whole = [standing for standing in all_standings(room) if standing[0] == 0]
        some = [whole[at] for at in (1, 5, 6, 7, 11, 12, 13, 15)]
        self.assertIn(((2, 1), (4, 1)), plain_wide(room, some, 0, 0))
        self.assertEqual(self.check(room, some, 0, 1, 0), 4)
        self.assertNotIn(((2, 1), (4, 1)), cover(room, grounds_book(some, 0, 1), 0, 1, 0)[0])
        self.assertEqual(self.check((2, 2, 2, 2), HEXAGON, 0, 1, 0), 3)


    def test_against_the_definition(self):
        many = {}
        for room in ROOMS + ((2, 4, 4), (2,) * 5):
            for box in range(len(room)):
                for better, worse in itertools.permutations(range(room[box]), 2):
                    for some in some_grounds(room, box, worse, 3, 90):
                        found = self.check(room, some, box, better, worse)
                        many[found] = many.get(found, 0) + 1
        self.assertGreater(min(many[number] for number in range(6)), 5, many)

    def test_other_wishes_beside(self):
        for more in some_books((2, 3, 2), 12, 8, 91):
            others = tuple(wish for wish in more if wish[1:] != (0, 1, 0))
            self.check((2, 3, 2), [(0, 0, 0), (0, 0, 1), (0, 2, 1)], 0, 1, 0, others)

    def test_rooms_of_sixty_four_and_twelve_grounds(self):
        for room in ((2,) * 6, (4, 4, 4), (4, 2, 2, 2, 2)):
            for some in some_grounds(room, 1, 1, 6, 92):
                if len(some) < 8 or room != (2,) * 6:
                    self.check(room, some, 1, 0, 1)

    def test_twelve_givens_and_a_tree_for_eleven(self):
        apart = [standing for standing in all_standings((2,) * 6) if standing[0] == 0 and sum(standing) % 2 == 0][:12]
        self.assertEqual(self.check((2,) * 6, apart, 0, 1, 0), 12)


class LetsTree(unittest.TestCase):
    def check(self, room, some, box, better, worse, m, things):
        wide = plain_wide(room, some, box, worse)
        book = grounds_book(some, box, better)
        for thing in things:
            check_truth(self, right_tree(wide, some, m, thing), lets_tree, room, book, box, better, worse, m, thing)

    def test_m_of_none(self):
        for ground in all_standings((2, 2, 2)):
            check_truth(
                self, ground in BENT, lets_tree, (2, 2, 2), grounds_book(BENT, 0, 1), 0, 1, 0, 0, (ground, [])
            )
        self.check((2, 2, 2), BENT, 0, 1, 0, 0, [((0, 1, 1), [None]), ((0, 1, 1), ()), ((0, 1, 1),), [(0, 1, 1), []]])
        tree = ((0, 0, 1), [(((2, 1),), ((0, 1, 0), []))])
        check_truth(self, False, lets_tree, (2, 2, 2), grounds_book(BENT, 0, 1), 0, 1, 0, 0, tree)

    def test_a_ground_that_is_not_open(self):
        book = grounds_book(BENT, 0, 1)
        for ground in all_standings((2, 2, 2)):
            tree = ((0, 0, 1), [(((2, 1),), (ground, []))])
            check_truth(self, ground == (0, 1, 0), lets_tree, (2, 2, 2), book, 0, 1, 0, 1, tree)

    def test_tries_in_another_order_left_out_one_more_or_twice(self):
        book = grounds_book(BENT, 0, 1)
        one, two = (((1, 1),), ((0, 0, 1), [])), (((2, 1),), ((0, 1, 0), []))
        asked = {True: [[one, two]], False: [
            [two, one], [one], [two], [], [one, one], [two, two], [one, two, two], [one, one, two], [one, two, None],
            [one, two, (((1, 1), (2, 1)), ((0, 0, 1), []))], [(((1, 0), (2, 1)), ((0, 1, 0), [])), one, two],
        ]}
        for wanted in asked:
            for tries in asked[wanted]:
                check_truth(self, wanted, lets_tree, (2, 2, 2), book, 0, 1, 0, 1, ((0, 1, 1), tries))

    def test_a_given_that_is_not_wide(self):
        book = grounds_book(BENT, 0, 1)
        for given in givens_without((2, 2, 2), 0):
            tree = ((0, 0, 1), [(given, ((0, 1, 0), []))])
            check_truth(self, given == ((2, 1),), lets_tree, (2, 2, 2), book, 0, 1, 0, 1, tree)

    def test_wide_for_all_grounds_not_only_the_open_ones(self):
        room, book = (2, 2, 2, 2), grounds_book(HEXAGON, 0, 1)
        wide = plain_wide(room, HEXAGON, 0, 0)
        (top, tries) = made_tree(wide, HEXAGON, 2, first)
        check_truth(self, True, lets_tree, room, book, 0, 1, 0, 2, (top, tries))
        unlike = 0
        for at, (given, below) in enumerate(tries):
            still = [ground for ground in HEXAGON if not is_kept(ground, given)]
            for ground in still:
                pick = rather(ground)
                right = made_tree(wide, still, 1, pick)
                narrow = made_tree(plain_wide(room, still, 0, 0), still, 1, pick)
                unlike += narrow != right
                for tree in (right, narrow):
                    thing = (top, tries[:at] + [(given, tree)] + tries[at + 1:])
                    check_truth(self, tree == right, lets_tree, room, book, 0, 1, 0, 2, thing)
        self.assertEqual(unlike, 4)

    def test_no_grounds(self):
        for m in range(13):
            for thing in odd_things() + [((0, 0), []), ((0, 0), [((), ((0, 1), []))]), ((), []), (None, [])]:
                check_truth(self, False, lets_tree, (2, 2), (), 0, 1, 0, m, thing)
                check_truth(self, False, lets_tree, (2, 2), (((), 0, 0, 1),), 0, 1, 0, m, thing)

    def test_of_anything(self):
        for m in (0, 1, 2, 5, 12):
            self.check((2, 2, 2), BENT, 0, 1, 0, m, odd_things() + [(one, []) for one in odd_things()])
            self.check((2, 2, 2), BENT, 0, 1, 0, m, [((0, 1, 1), one) for one in odd_things()])
            self.check((2, 2, 2), BENT, 0, 1, 0, m, [((0, 0, 1), [one]) for one in odd_things()])
            self.check((2, 2, 2), BENT, 0, 1, 0, m, [((0, 0, 1), [(((2, 1),), one)]) for one in odd_things()])
            self.check((2, 2, 2), BENT, 0, 1, 0, m, [((0, 0, 1), [(one, ((0, 1, 0), []))]) for one in odd_things()])

    def test_spoilt_trees(self):
        wide = plain_wide((2, 2, 2), BENT, 0, 0)
        for pick in (first, last):
            self.check((2, 2, 2), BENT, 0, 1, 0, 1, spoilt(made_tree(wide, BENT, 1, pick)))
            self.check((2, 2, 2), BENT, 0, 1, 0, 0, spoilt(made_tree(wide, BENT, 0, pick)))
        wide = plain_wide((2, 2, 2, 2), HEXAGON, 0, 0)
        for m in range(3):
            for pick in (first, last):
                tree = made_tree(wide, HEXAGON, m, pick)
                check_truth(
                    self, True, lets_tree, (2, 2, 2, 2), grounds_book(HEXAGON, 0, 1), 0, 1, 0, m, tree
                )
                self.check((2, 2, 2, 2), HEXAGON, 0, 1, 0, m, spoilt(tree))

    def test_truths_in_the_place_of_whole_numbers(self):
        book = grounds_book(BENT, 0, 1)
        for tree in (
            ((False, 0, 1), [(((2, 1),), ((0, 1, 0), []))]), ((0, 0, True), [(((2, 1),), ((0, 1, 0), []))]),
            ((0, 0, 1), [(((2, True),), ((0, 1, 0), []))]), ((0, 0, 1), [(((2, 1),), ((0, True, 0), []))]),
        ):
            self.assertEqual(tree, ((0, 0, 1), [(((2, 1),), ((0, 1, 0), []))]))
            check_truth(self, False, lets_tree, (2, 2, 2), book, 0, 1, 0, 1, tree)

    def test_trees_for_another_number_than_m(self):
        for room, some in (((2, 2, 2), BENT), ((2, 2, 2, 2), HEXAGON)):
            wide, book = plain_wide(room, some, 0, 0), grounds_book(some, 0, 1)
            for made in range(least_many(some, wide)):
                for pick in (first, last):
                    tree = made_tree(wide, some, made, pick)
                    for m in range(13):
                        check_truth(self, made == m, lets_tree, room, book, 0, 1, 0, m, tree)

    def test_m_up_to_twelve(self):
        room = (2,) * 6
        apart = [standing for standing in all_standings(room) if standing[0] == 0 and sum(standing) % 2 == 0][:12]
        wide, book = plain_wide(room, apart, 0, 0), grounds_book(apart, 0, 1)
        for made in range(12):
            tree = made_tree(wide, apart, made, last)
            for m in range(13):
                check_truth(self, made == m, lets_tree, room, book, 0, 1, 0, m, tree)
        # With twelve tries within one another no ground is still open, so nothing can stand in the last place.
        tree = made_tree(wide, apart, 11, first)
        ends = (apart[-1], [(wide_of(apart[-1], wide), (apart[-1], []))])
        check_truth(self, False, lets_tree, room, book, 0, 1, 0, 12, with_end(tree, ends))
        for thing in odd_things():
            check_truth(self, False, lets_tree, room, book, 0, 1, 0, 12, with_end(tree, thing))

    def test_beyond_the_bounds_of_m_nothing_is_a_tree(self):
        wide, book = plain_wide((2, 2, 2), BENT, 0, 0), grounds_book(BENT, 0, 1)
        for m in (-1, 2, 13, 14):
            for made in (0, 1):
                tree = made_tree(wide, BENT, made, first)
                check_truth(self, False, lets_tree, (2, 2, 2), book, 0, 1, 0, m, tree)

    def test_another_change_has_other_grounds(self):
        book = grounds_book(BENT, 0, 1)
        tree = ((0, 0, 1), [(((2, 1),), ((0, 1, 0), []))])
        check_truth(self, True, lets_tree, (2, 2, 2), book, 0, 1, 0, 1, tree)
        for box, better, worse in ((0, 0, 1), (1, 1, 0), (1, 0, 1), (2, 1, 0), (2, 0, 1)):
            check_truth(self, False, lets_tree, (2, 2, 2), book, box, better, worse, 1, tree)

    def test_told_trees_with_places_changed(self):
        chance = random.Random(93)
        for room in ((2, 2, 2), (3, 2, 2), (2, 2, 2, 2)):
            for some in some_grounds(room, 0, 0, 4, 94):
                if some:
                    givens, tree = cover(room, grounds_book(some, 0, 1), 0, 1, 0)
                    things = spoilt(tree)
                    self.check(room, some, 0, 1, 0, len(givens) - 1, chance.sample(things, min(60, len(things))))


def wide_of(ground, wide):
    """The one wide given that the ground keeps."""
    (given,) = [given for given in wide if is_kept(ground, given)]
    return given


def with_end(tree, end):
    """A tree of one try each, with another end in the place of its last tree."""
    ground, tries = tree
    if not tries:
        return end
    ((given, below),) = tries
    return (ground, [(given, with_end(below, end))])


class Refused(unittest.TestCase):
    def test_rooms_that_are_not_small(self):
        for room in GREAT_ROOMS:
            for book in ((), (UP,)):
                self.assertIs(type(refusal(self, cover, room, book, 0, 1, 0)), TooMany)
                for m in (0, 12):
                    tree = ((0,) * len(room), [])
                    self.assertIs(type(refusal(self, lets_tree, room, book, 0, 1, 0, m, tree)), TooMany)

    def test_whatever_else_is_handed_in(self):
        for thing in odd_things():
            self.assertIs(type(refusal(self, cover, (2,) * 7, thing, thing, thing, thing)), TooMany)
            self.assertIs(type(refusal(self, cover, (2,) * 7, thing, 0, 1, 0)), TooMany)
            self.assertIs(type(refusal(self, lets_tree, (2,) * 7, thing, thing, thing, thing, thing, thing)), TooMany)
            self.assertIs(type(refusal(self, lets_tree, (2,) * 7, (), 0, 1, 0, 0, thing)), TooMany)

    def test_twelve_and_thirteen_grounds(self):
        for room in ((2,) * 5, (2,) * 6, (4, 4, 4), (2, 4, 4)):
            whole = [standing for standing in all_standings(room) if standing[0] == 0]
            twelve, thirteen = grounds_book(whole[:12], 0, 1), grounds_book(whole[-13:], 0, 1)
            givens, tree = cover(room, twelve, 0, 1, 0)
            check_truth(self, True, lets_tree, room, twelve, 0, 1, 0, len(givens) - 1, tree)
            check_truth(self, False, lets_tree, room, twelve, 0, 1, 0, 12, None)
            self.assertIs(type(refusal(self, cover, room, thirteen, 0, 1, 0)), TooMany)
            for thing in [tree] + odd_things() + swaps(tree):
                for m in (0, 12):
                    self.assertIs(type(refusal(self, lets_tree, room, thirteen, 0, 1, 0, m, thing)), TooMany)

    def test_of_these_grounds_alone(self):
        # Many grounds of another box, or of the worths the other way round, are no bar.
        room = (2,) * 6
        book = (UP, ((), 2, 1, 0), (((0, 0), (1, 0), (2, 0), (3, 0)), 4, 1, 0), (((1, 0), (2, 0), (3, 0)), 0, 0, 1))
        self.assertEqual(cover(room, book, 4, 1, 0), ([book[2][0]], cover(room, book[2:3], 4, 1, 0)[1]))
        self.assertEqual(cover(room, book, 0, 0, 1)[0], [book[3][0]])
        self.assertEqual(cover(room, book, 5, 0, 1), ([], None))
        check_truth(self, True, lets_tree, room, book, 4, 1, 0, 0, ((0,) * 6, []))
        self.assertIs(type(refusal(self, cover, room, book, 0, 1, 0)), TooMany)
        self.assertIs(type(refusal(self, cover, room, book, 2, 1, 0)), TooMany)

    def test_many_wishes_are_no_bar(self):
        self.assertEqual(cover((2, 2), (UP,) * 600, 0, 1, 0)[0], [()])
        check_truth(self, True, lets_tree, (2, 2), (UP,) * 600, 0, 1, 0, 0, ((0, 1), []))


if __name__ == "__main__":
    unittest.main()
