"""Hands: owners, books given, worths chosen, the joint book, what a hand betters to, rest, plays, back."""

import copy
import random
import unittest

from allelse.bests import bests
from allelse.errors import NoBack, NoBook, NoBox, NoHand, NotYours, NoWorth
from allelse.hands import Hands
from allelse.rings import ring_or_worths
from allelse.wishes import is_book
from support import (
    GREAT, all_standings, is_plain, odd_things, plain_steps, refusal, rising, row_book, settled_books, snake,
    some_books, spoil, spoilt, unlike_at,
)

UP = ((), 0, 1, 0)
DOWN = ((), 0, 0, 1)
# Box 1 wants to be as box 0 is, or to be unlike it.
ALIKE = ((((0, 0),), 1, 0, 1), (((0, 1),), 1, 1, 0))
UNLIKE = ((((1, 0),), 0, 1, 0), (((1, 1),), 0, 0, 1))
SEATS = (((2,), (0,)), ((3,), (1,)), ((2, 2), (0, 1)), ((2, 2), (0, 0)), ((2, 3), (2, 0)), ((2, 2, 2), (1, 3, 1)))


def all_told(hands):
    """All that hands tell of themselves."""
    many = range(max(hands.owners) + 1)
    return (
        hands.standing(), [hands.book_of(hand) for hand in many], hands.joint(), [hands.betters(hand) for hand in many],
        hands.rests(), hands.resting(),
    )


class Model:
    """Hands told plainly, by the steps of each book."""

    def __init__(self, room, owners):
        self.room, self.owners = room, owners
        self.books, self.now, self.before = [()] * (max(owners) + 1), (0,) * len(room), []

    def keep(self):
        self.before.append((list(self.books), self.now))

    def betters(self, hand):
        leads = plain_steps(self.room, self.books[hand])[self.now]
        return sorted(there for there in leads if self.owners[unlike_at(self.now, there)[0]] == hand)

    def joint(self):
        own = []
        for hand, book in enumerate(self.books):
            for wish in book:
                if self.owners[wish[1]] == hand:
                    own.append(wish)
        return tuple(own)

    def resting(self):
        leads = plain_steps(self.room, self.joint())
        return [standing for standing in all_standings(self.room) if not leads[standing]]

    def told(self):
        whole = [self.betters(hand) for hand in range(len(self.books))]
        return (self.now, self.books, self.joint(), whole, not sum(whole, []), self.resting())

    def play(self, hands, most):
        self.keep()
        done = []
        while True:
            before = len(done)
            for hand in hands:
                if len(done) >= most:
                    return done
                there = self.betters(hand)
                if there:
                    self.now = there[0]
                    done.append((hand, self.now))
            if len(done) == before:
                return done


class Case(unittest.TestCase):
    def refused(self, hands, kind, ask, *handed):
        """What is asked is refused with an error of this kind, and changes nothing."""
        before = all_told(hands)
        error = refusal(self, ask, *handed)
        self.assertIs(type(error), kind, handed)
        self.assertEqual(all_told(hands), before)

    def nothing_back(self, hands):
        self.refused(hands, NoBack, hands.back)


class GivenAndChosen(Case):
    def test_at_first(self):
        for room, owners in SEATS:
            hands = Hands(room, owners)
            many = max(owners) + 1
            none = ((0,) * len(room), [()] * many, (), [[]] * many, True, all_standings(room))
            self.assertEqual(all_told(hands), none)
            self.refused(hands, NoHand, hands.book_of, many)

    def test_written_out(self):
        hands = Hands((2, 2), (0, 1))
        self.assertIs(hands.give(0, (UP,)), True)
        self.assertIs(hands.give(1, ALIKE), True)
        self.assertEqual((hands.book_of(0), hands.book_of(1)), ((UP,), ALIKE))
        self.assertEqual(hands.joint(), (UP,) + ALIKE)
        self.assertEqual((hands.betters(0), hands.betters(1)), ([(1, 0)], []))
        self.assertIs(hands.rests(), False)
        self.assertEqual(hands.resting(), [(1, 1)])
        self.assertIs(hands.choose(0, 0, 1), True)
        self.assertEqual(hands.standing(), (1, 0))
        self.assertEqual((hands.betters(0), hands.betters(1)), ([], [(1, 1)]))
        self.assertIs(hands.choose(1, 1, 1), True)
        self.assertEqual(hands.standing(), (1, 1))
        self.assertIs(hands.rests(), True)
        self.assertIs(hands.choose(1, 1, 1), True)
        self.assertEqual(hands.standing(), (1, 1))
        self.assertIs(hands.choose(1, 1, 0), True)
        self.assertEqual(hands.standing(), (1, 0))

    def test_another_book_in_the_place_of_its_own(self):
        hands = Hands((2, 2), (0, 1))
        hands.give(0, (UP,))
        hands.give(0, (DOWN, DOWN))
        self.assertEqual((hands.book_of(0), hands.book_of(1)), ((DOWN, DOWN), ()))
        hands.give(0, ())
        self.assertEqual(hands.joint(), ())

    def test_wishes_for_boxes_of_others_are_left_out(self):
        hands = Hands((2, 2), (1, 0))
        hands.give(0, (UP,) + ALIKE + (DOWN,))
        hands.give(1, ALIKE[:1] + (DOWN, UP))
        self.assertEqual(hands.joint(), ALIKE + (DOWN, UP))
        self.assertEqual(hands.book_of(0), (UP,) + ALIKE + (DOWN,))
        self.assertEqual(hands.betters(0), [])
        self.assertEqual(hands.betters(1), [(1, 0)])
        hands.give(1, ALIKE)
        self.assertEqual(hands.betters(1), [])
        self.assertIs(hands.rests(), True)

    def test_a_hand_whose_number_owns_no_box(self):
        hands = Hands((2, 2), (0, 2))
        for hand in range(3):
            hands.give(hand, (UP, ((), 1, 1, 0)))
        self.assertEqual(hands.joint(), (UP, ((), 1, 1, 0)))
        self.assertEqual([hands.betters(hand) for hand in range(3)], [[(1, 0)], [], [(0, 1)]])
        self.refused(hands, NotYours, hands.choose, 1, 0, 0)
        self.refused(hands, NotYours, hands.choose, 1, 1, 0)
        self.refused(hands, NoHand, hands.betters, 3)
        self.assertEqual(hands.play([1], 300), [])
        self.assertEqual(hands.play([1, 2, 1, 0], 300), [(2, (0, 1)), (0, (1, 1))])

    def test_against_the_definition(self):
        chance = random.Random(110)
        for room, owners in SEATS:
            books = some_books(room, 8, 6, 111) + some_books(room, 3, 20, 112)
            for _ in range(6):
                hands, model = Hands(room, owners), Model(room, owners)
                for hand in range(max(owners) + 1):
                    model.books[hand] = chance.choice(books)
                    hands.give(hand, model.books[hand])
                for standing in all_standings(room):
                    model.now = standing
                    for box, worth in enumerate(standing):
                        hands.choose(owners[box], box, worth)
                    self.assertEqual(all_told(hands), model.told())
                    self.assertEqual(hands.rests(), standing in hands.resting())
                    self.assertEqual(hands.resting(), bests(room, hands.joint(), ()))

    def test_a_hundred_wishes_and_one_more(self):
        hands = Hands((2,), (0,))
        self.assertIs(hands.give(0, (UP,) * 100), True)
        self.refused(hands, NoBook, hands.give, 0, (UP,) * 101)
        self.refused(hands, NoBook, hands.give, 0, (UP,) * 600)
        self.refused(hands, NoBook, hands.give, 0, (UP,) * 601)
        hands.back()
        self.nothing_back(hands)

    def test_great_rooms(self):
        for room in ((2,) * 8, (4, 4, 4, 4)):
            hands = Hands(room, (0, 1, 2, 3, 3, 2, 1, 0)[:len(room)])
            for hand in range(4):
                hands.give(hand, rising(room) * 5)
            self.assertEqual(len(hands.joint()), len(rising(room)) * 5)
            self.assertEqual(hands.resting(), [tuple(worths - 1 for worths in room)])
            done = hands.play([3, 1, 0, 2], 300)
            self.assertEqual(len(done), sum(room) - len(room))
            self.assertEqual(hands.standing(), hands.resting()[0])


class Refused(Case):
    def hands(self):
        hands = Hands((2, 3), (0, 1))
        hands.give(0, (UP,))
        hands.choose(1, 1, 2)
        return hands

    def test_no_hand(self):
        hands = self.hands()
        things = [thing for thing in odd_things() + spoilt(0) + [2, 3, "0", [0]] if repr(thing) not in ("0", "1")]
        for thing in things:
            self.refused(hands, NoHand, hands.give, thing, (UP,))
            self.refused(hands, NoHand, hands.choose, thing, 0, 0)
            self.refused(hands, NoHand, hands.book_of, thing)
            self.refused(hands, NoHand, hands.betters, thing)
            self.refused(hands, NoHand, hands.play, [thing], 3)
            self.refused(hands, NoHand, hands.play, [0, 1, thing], 3)
            self.refused(hands, NoHand, hands.play, [thing] + [0] * 19, 3)

    def test_no_list_of_hands(self):
        hands = self.hands()
        for thing in odd_things() + [(0, 1), "01", {0: 1}, 0, 1, [0] * 21, [0, 1] * 20, [], [[0]], [(0, 1)]]:
            if repr(thing) not in ("[0]", "[1]", "[0, 1]"):
                self.refused(hands, NoHand, hands.play, thing, 3)

    def test_no_book(self):
        hands = self.hands()
        wish = (((1, 2),), 0, 1, 0)
        self.assertIs(hands.give(0, (wish, UP)), True)
        for thing in odd_things() + spoilt((wish, UP)):
            if is_book((2, 3), thing):
                self.assertIs(hands.give(0, thing), True)
                self.assertEqual(hands.book_of(0), thing)
            else:
                self.refused(hands, NoBook, hands.give, 0, thing)
        for thing in ([UP], (((), 2, 0, 1),), (((), 0, 2, 1),), ((((0, 0),), 0, 0, 1),), UP, (UP, None), ((UP,),)):
            self.refused(hands, NoBook, hands.give, 0, thing)

    def test_no_box(self):
        hands = self.hands()
        for thing in odd_things() + [2, 3, "0", (0,), [1]]:
            if repr(thing) not in ("0", "1"):
                self.refused(hands, NoBox, hands.choose, 0, thing, 0)
                self.refused(hands, NoBox, hands.choose, 1, thing, None)

    def test_no_worth(self):
        hands = self.hands()
        for thing in odd_things() + [3, 4, "0", (0,), [1], True, False]:
            if repr(thing) not in ("0", "1"):
                self.refused(hands, NoWorth, hands.choose, 0, 0, thing)
            if repr(thing) not in ("0", "1", "2"):
                self.refused(hands, NoWorth, hands.choose, 1, 1, thing)
        self.assertIs(hands.choose(1, 1, 2), True)

    def test_the_order_of_refusals(self):
        hands = self.hands()
        self.refused(hands, NoHand, hands.give, 2, None)
        self.refused(hands, NoHand, hands.choose, True, None, None)
        self.refused(hands, NoHand, hands.choose, -1, 5, 5)
        self.refused(hands, NoBox, hands.choose, 0, 2, 9)
        self.refused(hands, NotYours, hands.choose, 0, 1, None)
        self.refused(hands, NotYours, hands.choose, 1, 0, 2)
        self.refused(hands, NoWorth, hands.choose, 1, 1, 3)
        self.refused(hands, NoWorth, hands.choose, 0, 0, 2)

    def test_what_is_refused_is_not_taken_back(self):
        hands = Hands((2, 3), (0, 1))
        hands.choose(1, 1, 2)
        for kind, ask, handed in (
            (NoHand, hands.give, (7, ())), (NoBook, hands.give, (0, None)), (NoBox, hands.choose, (0, 2, 0)),
            (NotYours, hands.choose, (0, 1, 0)), (NoWorth, hands.choose, (0, 0, GREAT)), (NoHand, hands.play, ([], 3)),
        ):
            self.refused(hands, kind, ask, *handed)
        self.assertIs(hands.back(), True)
        self.assertEqual(hands.standing(), (0, 0))
        self.nothing_back(hands)


class Plays(Case):
    def test_written_out(self):
        hands = Hands((2, 2), (0, 1))
        hands.give(0, (UP,))
        hands.give(1, ALIKE)
        self.assertEqual(hands.play([0, 1], 300), [(0, (1, 0)), (1, (1, 1))])
        self.assertEqual(hands.standing(), (1, 1))
        self.assertEqual(hands.play([0, 1], 300), [])

    def test_from_the_lists_first_hand_on(self):
        # Each chases the other round and round.
        hands = Hands((2, 2), (0, 1))
        hands.give(0, UNLIKE)
        hands.give(1, ALIKE)
        self.assertEqual(hands.play([0, 1], 3), [(0, (1, 0)), (1, (1, 1)), (0, (0, 1))])
        self.assertEqual(hands.play([0, 1], 1), [(1, (0, 0))])
        self.assertEqual(hands.play([1, 0], 1), [(0, (1, 0))])
        self.assertEqual(hands.play([0, 0, 1], 1), [(1, (1, 1))])
        self.assertEqual(hands.play([1], 5), [])
        self.assertEqual(hands.play([0], 5), [(0, (0, 1))])
        self.assertEqual(len(hands.play([0, 1], 300)), 300)
        self.assertEqual(len(hands.play([1] * 19 + [0], 300)), 300)

    def test_each_takes_the_first_standing_it_betters_to(self):
        hands = Hands((4, 2), (0, 0))
        hands.give(0, (((), 0, 3, 0), ((), 0, 2, 0), ((), 1, 1, 0), ((), 0, 3, 2)))
        self.assertEqual(hands.betters(0), [(0, 1), (2, 0), (3, 0)])
        self.assertEqual(hands.play([0], 300), [(0, (0, 1)), (0, (2, 1)), (0, (3, 1))])

    def test_till_the_list_has_been_gone_through_once_without_a_bettering(self):
        # Hand 1 waits for hand 0, who waits for hand 2; those ahead pass many times meanwhile.
        room, owners = (2, 2, 2), (0, 1, 2)
        hands = Hands(room, owners)
        hands.give(0, ((((2, 1),), 0, 1, 0),))
        hands.give(1, ((((0, 1),), 1, 1, 0),))
        hands.give(2, (((), 2, 1, 0),))
        wanted = [(2, (0, 0, 1)), (0, (1, 0, 1)), (1, (1, 1, 1))]
        for row in ([1, 0, 2], [0, 1, 2], [1] * 18 + [0, 2], [2, 1, 0], [1, 0, 2] * 6):
            self.assertEqual(hands.play(row, 300), wanted)
            hands.back()
        self.assertEqual(hands.play([1, 0], 300), [])

    def test_most(self):
        hands = Hands((4,), (0,))
        hands.give(0, rising((4,)))
        for most in range(5):
            done = hands.play([0], most)
            self.assertEqual(done, [(0, (1,)), (0, (2,)), (0, (3,))][:most])
            hands.back()
        self.assertEqual(hands.play([0, 0], 0), [])
        self.assertEqual(hands.standing(), (0,))

    def test_one_and_twenty_hands(self):
        hands = Hands((2,), (0,))
        hands.give(0, (UP,))
        self.assertEqual(hands.play([0], 300), [(0, (1,))])
        hands.back()
        self.assertEqual(hands.play([0] * 20, 300), [(0, (1,))])
        hands.back()
        self.refused(hands, NoHand, hands.play, [0] * 21, 300)
        self.refused(hands, NoHand, hands.play, [], 0)

    def test_against_the_definition(self):
        chance = random.Random(120)
        for room, owners in SEATS:
            books = some_books(room, 8, 6, 121) + settled_books(room, 3, 122)
            books = [book[:100] for book in books]
            for _ in range(12):
                hands, model = Hands(room, owners), Model(room, owners)
                for hand in range(max(owners) + 1):
                    model.books[hand] = chance.choice(books)
                    hands.give(hand, model.books[hand])
                for most in (0, 1, 2, 5, 40):
                    row = [chance.randrange(max(owners) + 1) for _ in range(chance.randint(1, 6))]
                    self.assertEqual(hands.play(row, most), model.play(row, most))
                    self.assertEqual(all_told(hands), model.told())

    def test_plays_end_at_rest_where_the_joint_book_has_worths(self):
        chance, ended = random.Random(130), 0
        for room, owners in SEATS + (((2,) * 6, (0, 1, 2, 3, 0, 1)), ((4, 4, 4), (1, 0, 2))):
            for book in settled_books(room, 4, 131) + [row_book(snake(room))] + some_books(room, 8, 5, 132):
                hands = Hands(room, owners)
                many = max(owners) + 1
                for hand in range(many):
                    hands.give(hand, book[:100])
                if ring_or_worths(room, hands.joint())[0] == "worths":
                    ended += 1
                    row = chance.sample(range(many), many) + [chance.randrange(many)]
                    done = hands.play(row, len(all_standings(room)))
                    self.assertIs(hands.rests(), True)
                    self.assertIn(hands.standing(), hands.resting())
                    self.assertLess(len(done), len(all_standings(room)))
        self.assertGreater(ended, 40)


class Back(Case):
    def test_of_each_deed_till_there_is_nothing(self):
        hands = Hands((2, 2), (0, 1))
        self.nothing_back(hands)
        states = [all_told(hands)]
        for ask, handed in (
            (hands.give, (0, (UP,))), (hands.give, (1, ALIKE)), (hands.choose, (1, 1, 1)), (hands.choose, (1, 1, 1)),
            (hands.play, ([0, 1], 300)),
            (hands.play, ([0, 1], 300)), (hands.play, ([0], 0)), (hands.give, (0, (DOWN,))),
            (hands.choose, (0, 0, 0)), (hands.give, (1, ALIKE)),
        ):
            ask(*handed)
            states.append(all_told(hands))
        while len(states) > 1:
            self.assertEqual(all_told(hands), states.pop())
            self.assertIs(hands.back(), True)
        self.assertEqual(all_told(hands), states[0])
        self.nothing_back(hands)
        hands.choose(0, 0, 1)
        self.assertIs(hands.back(), True)
        self.assertEqual(hands.standing(), (0, 0))

    def test_all_of_a_play(self):
        hands = Hands((4, 4), (0, 1))
        hands.give(0, rising((4, 4)))
        hands.give(1, rising((4, 4)))
        self.assertEqual(len(hands.play([0, 1], 300)), 6)
        hands.back()
        self.assertEqual(hands.standing(), (0, 0))
        self.assertEqual(hands.book_of(1), rising((4, 4)))

    def test_a_play_without_a_bettering_is_one(self):
        hands = Hands((2,), (0,))
        hands.choose(0, 0, 1)
        self.assertEqual(hands.play([0], 300), [])
        hands.back()
        self.assertEqual(hands.standing(), (1,))
        hands.back()
        self.assertEqual(hands.standing(), (0,))
        self.nothing_back(hands)

    def test_rows_of_deeds(self):
        for seed, (room, owners) in enumerate(SEATS):
            chance = random.Random(140 + seed)
            hands, model = Hands(room, owners), Model(room, owners)
            books = some_books(room, 10, 8, 141)
            for _ in range(80):
                draw, hand = chance.random(), chance.randrange(max(owners) + 1)
                if draw < 0.25:
                    model.keep()
                    model.books[hand] = chance.choice(books)
                    self.assertIs(hands.give(hand, model.books[hand]), True)
                elif draw < 0.5:
                    box = chance.randrange(len(room))
                    model.keep()
                    model.now = model.now[:box] + (chance.randrange(room[box]),) + model.now[box + 1:]
                    self.assertIs(hands.choose(owners[box], box, model.now[box]), True)
                elif draw < 0.7:
                    row, most = [hand, chance.randrange(max(owners) + 1)], chance.randrange(6)
                    self.assertEqual(hands.play(row, most), model.play(row, most))
                elif model.before:
                    self.assertIs(hands.back(), True)
                    model.books, model.now = model.before.pop()
                else:
                    self.nothing_back(hands)
                self.assertEqual(all_told(hands), model.told())


class Told(Case):
    def test_told_lists_are_the_askers_own(self):
        hands = Hands((2, 2), (0, 1))
        hands.give(0, UNLIKE)
        hands.give(1, ALIKE)
        before = all_told(hands)
        self.assertTrue(is_plain(before))
        kept_copy = copy.deepcopy(before)
        spoil(all_told(hands))
        self.assertEqual(all_told(hands), before)
        done = hands.play([0, 1], 2)
        self.assertTrue(is_plain(done))
        spoil(done)
        hands.back()
        self.assertEqual(all_told(hands), before)
        self.assertEqual(before, kept_copy)
        self.assertEqual(hands.play([0, 1], 2), [(0, (1, 0)), (1, (1, 1))])

    def test_what_is_handed_in_stays_as_it_was(self):
        hands = Hands((2, 2), (0, 1))
        hands.give(0, (UP,))
        row = [0, 1, 0]
        hands.play(row, 300)
        self.assertEqual(row, [0, 1, 0])
        row.clear()
        hands.back()
        self.assertEqual(hands.standing(), (0, 0))

    def test_two_of_hands_do_not_touch_one_another(self):
        first, second = Hands((2, 2), (0, 1)), Hands((2, 2), (0, 1))
        before = all_told(second)
        first.give(0, (UP,))
        first.choose(1, 1, 1)
        first.play([0], 3)
        self.assertEqual(all_told(second), before)
        self.nothing_back(second)
        second.give(0, (DOWN,))
        self.assertEqual(first.book_of(0), (UP,))
        self.assertEqual(first.standing(), (1, 1))


if __name__ == "__main__":
    unittest.main()
