"""What point 3 promises over the whole program: what one part tells another part lets by, or reads back."""

import itertools
import unittest

from allelse.against import against
from allelse.alike import parted
from allelse.bests import bests
from allelse.cover import cover, lets_tree
from allelse.desk import Desk
from allelse.errors import HasRing, IsBetter, NotSettled, TooMany
from allelse.fewest import fewest
from allelse.grounds import grounds
from allelse.hands import Hands
from allelse.hangs import order
from allelse.keeper import Keeper
from allelse.laid import full, laid
from allelse.needless import leaned, needless
from allelse.papers import lets
from allelse.reader import read_book, read_standing, read_standings
from allelse.rings import lets_ring, lets_worths, ring_or_worths
from allelse.rooms import number
from allelse.settled import local_round, settled
from allelse.sets import lets_shut
from allelse.sweep import best, swept
from allelse.texts import show_book, show_standing, show_standings, show_wish
from allelse.ways import compared, lets_way, told
from allelse.wide import first_unlike, plain, wide_best, wide_swept
from allelse.wishes import is_book
from allelse.worths import worths_that_show
from support import (
    all_givens, all_standings, kept, plain_books, refusal, rising, settled_books, some_books,
)

ROOMS = ((2,), (3,), (2, 2), (3, 2), (2, 2, 2))
GREAT_ROOMS = ((2,) * 8, (4, 4, 4, 4))
NAMES = ["".join(row) for row in itertools.product("abcdefghij", repeat=2)]


def books(room):
    told_books = some_books(room, 6, 4, 300) + some_books(room, 4, 10, 301)
    return told_books + settled_books(room, 3, 302) + plain_books(room, 2, 303)


def cases():
    return [(room, book) for room in ROOMS for book in books(room)]


def pairs(room):
    return list(itertools.product(all_standings(room), repeat=2))


def desk_of(room, book):
    desk = Desk(room)
    for name, wish in zip(NAMES, book):
        desk.say("enter " + name + " " + show_wish(wish))
    return desk


class Whole(unittest.TestCase):
    def test_of_each_two_standings_a_way_or_a_shut_set(self):
        for room, book in cases():
            for one, other in pairs(room):
                word, row = told(room, book, one, other)
                look, never = (lets_way, lets_shut) if word == "better" else (lets_shut, lets_way)
                self.assertIs(look(room, book, one, other, row), True)
                self.assertIs(never(room, book, one, other, row), False)
                self.assertIs(lets(room, book, (word, one, other, row)), True)
                self.assertEqual(read_standings(room, show_standings(row)), row)

    def test_a_ring_or_worths_and_just_one_of_them(self):
        found = {"ring": 0, "worths": 0}
        for room, book in cases():
            word, thing = ring_or_worths(room, book)
            found[word] += 1
            self.assertIs(lets(room, book, (word, thing)), True)
            look = lets_ring if word == "ring" else lets_worths
            self.assertIs(look(room, book, thing), True)
            has_way_round = [one for one in all_standings(room) if told(room, book, one, one)[0] == "better"]
            self.assertEqual(word == "ring", bool(has_way_round))
        self.assertGreater(min(found.values()), 5, found)

    def test_worths_that_show_where_there_are_worths(self):
        for room, book in cases():
            has_ring = ring_or_worths(room, book)[0] == "ring"
            for one, other in pairs(room)[::3]:
                is_better = told(room, book, one, other)[0] == "better"
                if has_ring or is_better:
                    error = refusal(self, worths_that_show, room, book, one, other)
                    self.assertIs(type(error), HasRing if has_ring else IsBetter)
                    continue
                worths = worths_that_show(room, book, one, other)
                self.assertIs(lets(room, book, ("worths", worths)), True)
                self.assertLessEqual(worths[number(room, other)], worths[number(room, one)])
                way = ("better", one, other, [one, other])
                self.assertIs(against(room, way, ("worths", worths)), True)

    def test_an_order_and_no_round_leave_no_ring(self):
        many = 0
        for room, book in cases():
            rounds = [local_round(room, book, box, one) for one in all_standings(room) for box in range(len(room))]
            if order(room, book)[0] == "order":
                self.assertIs(lets(room, book, order(room, book)), True)
                if rounds == [None] * len(rounds):
                    many += 1
                    self.assertEqual(ring_or_worths(room, book)[0], "worths")
        self.assertGreater(many, 20)

    def test_of_a_settled_book_one_best_to_which_all_lead(self):
        many = 0
        for room, book in cases():
            if settled(room, book) is not None:
                self.assertIs(type(refusal(self, best, room, book, ())), NotSettled)
                continue
            many += 1
            for given in all_givens(room):
                top = best(room, book, given)
                ways = [swept(room, book, one, given) for one in kept(room, given) if one != top]
                self.assertIs(lets(room, book, ("best", given, top, ways)), True)
                self.assertEqual(bests(room, book, given), [top])
        self.assertGreater(many, 20)

    def test_two_books_alike_or_what_parts_them(self):
        for room in ROOMS:
            some = books(room)
            for book, second in zip(some, some[1:] + some[:1]):
                parts = parted(room, book, second)
                if parts is None:
                    for one, other in pairs(room):
                        self.assertEqual(told(room, book, one, other)[0], told(room, second, one, other)[0])
                else:
                    word, which, one, other, way, shut = parts
                    here, there = (book, second) if which == 0 else (second, book)
                    self.assertIs(lets(room, here, ("better", one, other, way)), True)
                    self.assertIs(lets(room, there, ("not", one, other, shut)), True)

    def test_a_wish_that_is_not_needed_may_go(self):
        for room, book in cases():
            short = book[:24]
            lean = leaned(room, short)
            self.assertEqual(needless(room, lean), [])
            for one, other in pairs(room):
                self.assertEqual(told(room, short, one, other)[0], told(room, lean, one, other)[0])
            for at in range(len(lean)):
                parts = parted(room, lean, lean[:at] + lean[at + 1:])
                self.assertIs(lets(room, lean, ("needed", at) + parts[2:]), True)

    def test_the_fewest_rows_with_trees(self):
        for room, book in cases():
            few = fewest(room, book)
            self.assertEqual(full(room, few), full(room, book))
            many = 0
            for box, worths in enumerate(room):
                for better, worse in itertools.permutations(range(worths), 2):
                    givens, tree = cover(room, book, box, better, worse)
                    many += len(givens)
                    if grounds(room, book, box, better, worse):
                        self.assertIs(lets_tree(room, book, box, better, worse, len(givens) - 1, tree), True)
                        self.assertIs(lets_tree(room, book, box, better, worse, len(givens), tree), False)
            self.assertEqual(len(few), many)

    def test_books_laid_over_one_another_are_books_like_others(self):
        for room in ROOMS:
            some = books(room)
            for first, second in zip(some, some[1:]):
                over = laid(room, [first, second])
                self.assertIs(is_book(room, over), True)
                self.assertEqual(read_book(room, show_book(over)), over)
                self.assertEqual(laid(room, [over, first, second]), over)
                word, thing = ring_or_worths(room, over)
                self.assertIs(lets(room, over, (word, thing)), True)

    def test_a_keeper_answers_as_its_book_does(self):
        for room, book in cases():
            keeper = Keeper(room)
            for one, other in pairs(room)[:100]:
                keeper.ask(one, other)
            for name, wish in zip(NAMES, book[:12]):
                before = {pair: keeper.paper(*pair) for pair in keeper.asked()}
                asked, changed = keeper.enter(name, wish)
                for one, other in keeper.asked():
                    answer, row = keeper.paper(one, other)
                    word, old = before[one, other]
                    self.assertEqual(answer, told(room, keeper.book(), one, other)[0])
                    self.assertIs(lets(room, keeper.book(), (answer, one, other, row)), True)
                    held = lets(room, keeper.book(), (word, one, other, old))
                    self.assertEqual((one, other) in asked, not held)
                    self.assertEqual((one, other) in changed, word != answer)
                    self.assertIs(keeper.ask(one, other), answer == "better")

    def test_what_a_desk_answers_is_read_back_and_let_by(self):
        for room, book in cases():
            book = book[:40]
            desk = desk_of(room, book)
            for one, other in pairs(room)[:60]:
                pair = show_standing(one) + " " + show_standing(other)
                row = read_standings(room, desk.say("why " + pair))
                word = "better" if desk.say("ask " + pair) == "yes" else "not"
                self.assertIs(lets(room, book, (word, one, other, row)), True)
                self.assertEqual(desk.say("compare " + pair), compared(room, book, one, other))
            if settled(room, book) is None:
                top = read_standing(room, desk.say("best -"))
                for one in all_standings(room):
                    way = read_standings(room, desk.say("sweep " + show_standing(one) + " -"))
                    self.assertEqual((way[0], way[-1]), (one, top))

    def test_hands_come_to_rest_where_the_joint_book_is_settled(self):
        for room, book in cases():
            if settled(room, book) is None:
                hands = Hands(room, tuple(range(len(room))))
                for hand in range(len(room)):
                    hands.give(hand, book[:100])
                self.assertEqual(sorted(hands.joint()), sorted(book))
                hands.play(list(range(len(room))), len(all_standings(room)))
                self.assertIs(hands.rests(), True)
                self.assertEqual([hands.standing()], hands.resting())
                self.assertEqual(hands.standing(), best(room, book, ()))

    def test_plain_books_in_rooms_of_any_size(self):
        for room in ROOMS + GREAT_ROOMS:
            for book in plain_books(room, 2, 304):
                self.assertIsNone(plain(room, book))
                self.assertIsNone(settled(room, book))
                top = wide_best(room, book, ())
                self.assertEqual(best(room, book, ()), top)
                for one in all_standings(room)[::7]:
                    way = wide_swept(room, book, one, ())
                    if one != top:
                        self.assertIs(lets(room, book, ("better", one, top, way)), True)
                        self.assertEqual(first_unlike(room, book, one, top), ("open",))
                        self.assertEqual(first_unlike(room, book, top, one)[0], "first")

    def test_great_rooms(self):
        for room in GREAT_ROOMS:
            for book in settled_books(room, 2, 305):
                self.assertEqual(read_book(room, show_book(book)), book)
                whole = all_standings(room)
                for one, other in zip(whole[::17], whole[::-19]):
                    word, row = told(room, book, one, other)
                    self.assertIs(lets(room, book, (word, one, other, row)), True)
                self.assertIs(lets(room, book, ring_or_worths(room, book)), True)
                self.assertIs(lets(room, book, order(room, book)), True)
            for ask, handed in ((full, (rising(room),)), (laid, ([rising(room)],)), (fewest, (rising(room),)),
                                (needless, (rising(room),)), (leaned, (rising(room),)), (parted, (rising(room), ()))):
                self.assertIs(type(refusal(self, ask, room, *handed)), TooMany)


if __name__ == "__main__":
    unittest.main()
