"""A keeper: names entered and dropped, back, pairs asked, kept and forgotten, papers looked at behind each deed."""

import copy
import itertools
import random
import unittest

from allelse.errors import Full, NoBack, NoName, NoStanding, NotAsked, NoWish, Taken, Unknown
from allelse.keeper import Keeper
from allelse.papers import lets
from allelse.ways import told
from allelse.wishes import is_wish
from support import (
    GREAT, all_standings, all_wishes, is_plain, odd_things, plain_better, plain_steps, refusal, right_shut, right_way,
    row_book, shortest_ways, snake, spoil, spoilt, step_wish,
)

UP = ((), 0, 1, 0)
DOWN = ((), 0, 0, 1)
WITH = (((0, 1),), 1, 1, 0)
NAMES = ["".join(row) for row in itertools.product("abcdefgh", repeat=2)]
NO_NAMES = [
    "", "abcdefghi", "A", "aB", "a1", "1", "a b", " a", "a ", "a\n", "-", "a-b", "abcdefgH", "\u00e4", "\u0430", "a_b",
]


def all_told(keeper):
    """All that a keeper tells of itself."""
    wishes = [keeper.wish(name) for name in keeper.names()]
    papers = [keeper.paper(one, other) for one, other in keeper.asked()]
    return (keeper.names(), wishes, keeper.book(), keeper.asked(), papers)


def first_told(room, leads, one, other):
    """What point 10 tells of a pair, said by the steps."""
    better = plain_better(leads)
    if other in better[one]:
        return ("better", min(shortest_ways(leads, one, other)))
    return ("not", sorted(better[one] | {one}))


class Model:
    """A keeper told plainly: rows of names and wishes, all earlier rows, and papers looked at one by one."""

    def __init__(self, room):
        self.room, self.rows, self.before, self.papers = room, [], [], {}

    def leads(self):
        return plain_steps(self.room, [wish for name, wish in self.rows])

    def deed(self, rows, before):
        self.rows, self.before = rows, before
        leads, asked, changed = self.leads(), [], []
        for (one, other), (word, row) in sorted(self.papers.items()):
            look = right_way if word == "better" else right_shut
            if not look(self.room, leads, one, other, row):
                self.papers[one, other] = first_told(self.room, leads, one, other)
                asked.append((one, other))
                changed += [(one, other)] if self.papers[one, other][0] != word else []
        return (asked, changed)

    def enter(self, name, wish):
        return self.deed(self.rows + [(name, wish)], self.before + [self.rows])

    def drop(self, name):
        return self.deed([row for row in self.rows if row[0] != name], self.before + [self.rows])

    def back(self):
        return self.deed(self.before[-1], self.before[:-1])

    def ask(self, one, other):
        if (one, other) not in self.papers:
            self.papers[one, other] = first_told(self.room, self.leads(), one, other)
        return self.papers[one, other][0] == "better"


class Case(unittest.TestCase):
    def refused(self, keeper, kind, ask, *handed):
        """What is asked is refused with an error of this kind, and changes nothing."""
        before = all_told(keeper)
        error = refusal(self, ask, *handed)
        self.assertIs(type(error), kind, handed)
        self.assertEqual(all_told(keeper), before)
        return error


class NamesAndWishes(Case):
    def test_at_first_none(self):
        keeper = Keeper((2, 2))
        self.assertEqual(all_told(keeper), ([], [], (), [], []))

    def test_entered_and_dropped(self):
        keeper = Keeper((2, 2))
        self.assertEqual(keeper.enter("b", UP), ([], []))
        self.assertEqual(keeper.enter("a", WITH), ([], []))
        self.assertEqual(keeper.enter("abcdefgh", UP), ([], []))
        self.assertEqual(keeper.names(), ["b", "a", "abcdefgh"])
        self.assertEqual(keeper.book(), (UP, WITH, UP))
        self.assertEqual([keeper.wish(name) for name in keeper.names()], [UP, WITH, UP])
        self.assertEqual(keeper.drop("a"), ([], []))
        self.assertEqual((keeper.names(), keeper.book()), (["b", "abcdefgh"], (UP, UP)))
        self.assertEqual(keeper.enter("a", DOWN), ([], []))
        self.assertEqual((keeper.names(), keeper.book()), (["b", "abcdefgh", "a"], (UP, UP, DOWN)))

    def test_names_of_one_to_eight_letters(self):
        keeper = Keeper((2,))
        names = ["a" * many for many in range(1, 9)] + list("bcdefghijklmnopqrstuvwxyz")
        for name in names:
            keeper.enter(name, UP)
        self.assertEqual(keeper.names(), names)

    def test_forty_and_one_more(self):
        keeper = Keeper((2,))
        for name in NAMES[:40]:
            keeper.enter(name, UP)
        self.assertEqual((keeper.names(), keeper.book()), (NAMES[:40], (UP,) * 40))
        self.refused(keeper, Full, keeper.enter, NAMES[40], UP)
        keeper.drop(NAMES[7])
        self.assertEqual(keeper.enter(NAMES[40], DOWN), ([], []))
        self.refused(keeper, Full, keeper.enter, NAMES[7], UP)
        keeper.back()
        keeper.back()
        self.assertEqual(keeper.names(), NAMES[:40])
        self.refused(keeper, Full, keeper.enter, NAMES[41], UP)

    def test_no_name(self):
        keeper = Keeper((2,))
        keeper.enter("a", UP)
        for thing in odd_things() + NO_NAMES + [["a"], ("a",), {"a": UP}, "a" * 50000]:
            self.refused(keeper, NoName, keeper.enter, thing, UP)

    def test_no_wish(self):
        keeper = Keeper((2, 2))
        keeper.enter("a", UP)
        for thing in odd_things() + spoilt(UP) + spoilt(WITH) + [(UP,), [UP], ((), 2, 1, 0), ((), 0, 2, 0)]:
            if not is_wish((2, 2), thing):
                self.refused(keeper, NoWish, keeper.enter, "b", thing)
            else:
                self.assertEqual(keeper.enter("b", thing), ([], []))
                self.assertEqual(keeper.wish("b"), thing)
                keeper.back()

    def test_unknown(self):
        keeper = Keeper((2,))
        keeper.enter("a", UP)
        for ask in (keeper.drop, keeper.wish):
            for thing in odd_things() + NO_NAMES + ["b", "aa", ["a"], ("a",), {"a": UP}]:
                error = self.refused(keeper, Unknown, ask, thing)
                self.assertEqual(error.name, thing if type(thing) is str else None)
        keeper.drop("a")
        self.assertEqual(self.refused(keeper, Unknown, keeper.drop, "a").name, "a")
        self.assertEqual(self.refused(keeper, Unknown, keeper.wish, "a").name, "a")

    def test_the_order_of_refusals(self):
        keeper = Keeper((2,))
        for name in NAMES[:40]:
            keeper.enter(name, UP)
        self.refused(keeper, NoName, keeper.enter, "A", None)
        self.refused(keeper, NoName, keeper.enter, None, UP)
        self.refused(keeper, Taken, keeper.enter, NAMES[0], None)
        self.refused(keeper, Taken, keeper.enter, NAMES[39], UP)
        self.refused(keeper, NoWish, keeper.enter, "new", None)
        self.refused(keeper, NoWish, keeper.enter, "new", ((), 0, 1, True))
        self.refused(keeper, Full, keeper.enter, "new", UP)
        keeper.drop(NAMES[1])
        self.refused(keeper, Taken, keeper.enter, NAMES[0], None)
        self.refused(keeper, NoWish, keeper.enter, NAMES[1], None)
        self.assertEqual(keeper.enter(NAMES[1], UP), ([], []))


class Back(Case):
    def test_till_there_is_nothing(self):
        keeper = Keeper((2, 2))
        self.refused(keeper, NoBack, keeper.back)
        keeper.enter("a", UP)
        keeper.enter("b", WITH)
        keeper.drop("a")
        self.assertEqual(keeper.back(), ([], []))
        self.assertEqual(keeper.names(), ["a", "b"])
        self.assertEqual(keeper.back(), ([], []))
        self.assertEqual(keeper.names(), ["a"])
        self.assertEqual(keeper.back(), ([], []))
        self.assertEqual(keeper.names(), [])
        self.refused(keeper, NoBack, keeper.back)
        self.refused(keeper, NoBack, keeper.back)
        keeper.enter("c", DOWN)
        self.assertEqual(keeper.back(), ([], []))
        self.refused(keeper, NoBack, keeper.back)

    def test_what_was_dropped_stands_in_its_place_again(self):
        for at in range(4):
            keeper = Keeper((4,))
            for worth, name in enumerate("dbca"):
                keeper.enter(name, ((), 0, worth, (worth + 1) % 4))
            before = all_told(keeper)
            keeper.drop("dbca"[at])
            self.assertEqual(len(keeper.names()), 3)
            keeper.back()
            self.assertEqual(all_told(keeper), before)

    def test_behind_droppings_and_enterings(self):
        keeper = Keeper((2,))
        for name in "abcde":
            keeper.enter(name, UP)
        keeper.drop("b")
        keeper.drop("d")
        keeper.enter("b", DOWN)
        keeper.drop("a")
        told_names = []
        for _ in range(4):
            keeper.back()
            told_names.append("".join(keeper.names()))
        self.assertEqual(told_names, ["aceb", "ace", "acde", "abcde"])
        self.assertEqual(keeper.wish("b"), UP)

    def test_behind_a_refusal(self):
        keeper = Keeper((2, 2))
        keeper.enter("a", UP)
        keeper.enter("b", WITH)
        for kind, ask, handed in (
            (NoName, keeper.enter, ("A", UP)), (Taken, keeper.enter, ("a", UP)), (NoWish, keeper.enter, ("c", None)),
            (Unknown, keeper.drop, ("c",)), (NoStanding, keeper.ask, (None, None)),
            (NotAsked, keeper.forget, ((0, 0), (1, 1))),
        ):
            self.refused(keeper, kind, ask, *handed)
        keeper.back()
        self.assertEqual(keeper.names(), ["a"])

    def test_asking_and_forgetting_are_no_deeds(self):
        keeper = Keeper((2, 2))
        keeper.ask((0, 0), (1, 0))
        self.refused(keeper, NoBack, keeper.back)
        keeper.enter("a", UP)
        keeper.ask((0, 1), (1, 1))
        keeper.ask((1, 1), (0, 1))
        keeper.forget((1, 1), (0, 1))
        pair, second = ((0, 0), (1, 0)), ((0, 1), (1, 1))
        self.assertEqual(keeper.back(), ([pair, second], [pair, second]))
        self.assertEqual(keeper.asked(), [pair, second])
        self.refused(keeper, NoBack, keeper.back)


class Pairs(Case):
    def test_written_out(self):
        keeper = Keeper((2, 2))
        pair, turned = ((0, 0), (1, 1)), ((1, 1), (0, 0))
        self.assertIs(keeper.ask(*pair), False)
        self.assertEqual(keeper.paper(*pair), ("not", [(0, 0)]))
        self.assertEqual(keeper.enter("a", UP), ([pair], []))
        self.assertEqual(keeper.paper(*pair), ("not", [(0, 0), (1, 0)]))
        self.assertEqual(keeper.enter("b", WITH), ([pair], [pair]))
        self.assertEqual(keeper.paper(*pair), ("better", [(0, 0), (1, 0), (1, 1)]))
        self.assertIs(keeper.ask(*pair), True)
        self.assertIs(keeper.ask(*turned), False)
        self.assertEqual(keeper.asked(), [pair, turned])
        self.assertEqual(keeper.paper(*turned), ("not", [(1, 1)]))
        self.assertEqual(keeper.drop("a"), ([pair], [pair]))
        self.assertEqual(keeper.paper(*pair), ("not", [(0, 0)]))
        self.assertEqual(keeper.back(), ([pair], [pair]))
        self.assertIs(keeper.forget(*pair), True)
        self.assertEqual(keeper.asked(), [turned])

    def test_papers_that_hold_still_are_kept_as_they_are(self):
        keeper = Keeper((3,))
        keeper.enter("a", ((), 0, 1, 0))
        keeper.enter("b", ((), 0, 2, 1))
        self.assertIs(keeper.ask((0,), (2,)), True)
        self.assertIs(keeper.ask((1,), (0,)), False)
        long_way, wide_set = ("better", [(0,), (1,), (2,)]), ("not", [(1,), (2,)])
        # There is a shorter way now, but the kept one holds.
        self.assertEqual(keeper.enter("c", ((), 0, 2, 0)), ([], []))
        self.assertEqual(keeper.paper((0,), (2,)), long_way)
        self.assertEqual(told((3,), keeper.book(), (0,), (2,)), ("better", [(0,), (2,)]))
        # There is a smaller set then, but the kept one holds; the way doesn't.
        self.assertEqual(keeper.drop("b"), ([((0,), (2,))], []))
        self.assertEqual(keeper.paper((0,), (2,)), ("better", [(0,), (2,)]))
        self.assertEqual(keeper.paper((1,), (0,)), wide_set)
        self.assertEqual(told((3,), keeper.book(), (1,), (0,)), ("not", [(1,)]))
        self.assertEqual(keeper.back(), ([], []))
        self.assertEqual(keeper.paper((0,), (2,)), ("better", [(0,), (2,)]))
        # Asked again a kept pair's paper stays; forgotten and asked it is a new one.
        keeper.drop("b")
        self.assertIs(keeper.ask((1,), (0,)), False)
        self.assertEqual(keeper.paper((1,), (0,)), wide_set)
        keeper.forget((1,), (0,))
        self.assertIs(keeper.ask((1,), (0,)), False)
        self.assertEqual(keeper.paper((1,), (0,)), ("not", [(1,)]))

    def test_a_kept_set_may_have_other_in_it(self):
        keeper = Keeper((2,))
        keeper.enter("a", UP)
        self.assertIs(keeper.ask((0,), (0,)), False)
        self.assertEqual(keeper.paper((0,), (0,)), ("not", [(0,), (1,)]))
        self.assertEqual(keeper.drop("a"), ([], []))
        self.assertEqual(keeper.paper((0,), (0,)), ("not", [(0,), (1,)]))
        # The set is shut still, but something leads to other.
        self.assertEqual(keeper.enter("b", DOWN), ([((0,), (0,))], []))
        self.assertEqual(keeper.paper((0,), (0,)), ("not", [(0,)]))

    def test_a_way_round(self):
        keeper = Keeper((2,))
        pair = ((0,), (0,))
        self.assertIs(keeper.ask(*pair), False)
        self.assertEqual(keeper.enter("a", UP), ([pair], []))
        self.assertEqual(keeper.enter("b", DOWN), ([pair], [pair]))
        self.assertEqual(keeper.paper(*pair), ("better", [(0,), (1,), (0,)]))
        self.assertIs(keeper.ask(*pair), True)

    def test_asked_and_changed_rise(self):
        keeper = Keeper((2, 2))
        pairs = [(one, other) for one, other in itertools.product(all_standings((2, 2)), repeat=2)]
        for pair in random.Random(3).sample(pairs, len(pairs)):
            keeper.ask(*pair)
        self.assertEqual(keeper.asked(), pairs)
        asked, changed = keeper.enter("a", UP)
        wanted = [pair for pair in pairs if pair[0][0] == 0]
        self.assertEqual(asked, wanted)
        self.assertEqual(changed, [((0, 0), (1, 0)), ((0, 1), (1, 1))])
        asked, changed = keeper.drop("a")
        self.assertEqual((asked, changed), ([((0, 0), (1, 0)), ((0, 1), (1, 1))],) * 2)

    def test_a_hundred_and_one_more(self):
        keeper = Keeper((4, 4))
        pairs = list(itertools.product(all_standings((4, 4)), repeat=2))
        for pair in pairs[:100]:
            self.assertIs(keeper.ask(*pair), False)
        self.refused(keeper, Full, keeper.ask, *pairs[100])
        for pair in pairs[:100]:
            self.assertIs(keeper.ask(*pair), False)
        self.assertEqual(keeper.asked(), pairs[:100])
        # What is no standing goes ahead.
        self.refused(keeper, NoStanding, keeper.ask, pairs[100][0], (4, 0))
        self.refused(keeper, NotAsked, keeper.forget, *pairs[100])
        self.assertIs(keeper.forget(*pairs[3]), True)
        self.assertIs(keeper.ask(*pairs[100]), False)
        self.refused(keeper, Full, keeper.ask, *pairs[3])

    def test_no_standing(self):
        keeper = Keeper((2, 2))
        keeper.ask((0, 0), (1, 1))
        for thing in odd_things() + spoilt((0, 1)) + [(2, 0), (0, 2), (0, 0, 0), ((0, 0), (1, 1))]:
            if repr(thing) not in [repr(standing) for standing in all_standings((2, 2))]:
                self.refused(keeper, NoStanding, keeper.ask, thing, (0, 0))
                self.refused(keeper, NoStanding, keeper.ask, (0, 0), thing)
                self.refused(keeper, NoStanding, keeper.ask, thing, thing)

    def test_not_asked(self):
        keeper = Keeper((2, 2))
        keeper.ask((0, 0), (1, 1))
        for ask in (keeper.forget, keeper.paper):
            self.refused(keeper, NotAsked, ask, (1, 1), (0, 0))
            self.refused(keeper, NotAsked, ask, (0, 0), (0, 0))
            for thing in odd_things() + spoilt((0, 1)) + [(2, 0), (False, False), (True, True), [0, 0], GREAT]:
                if repr(thing) != "(1, 1)":
                    self.refused(keeper, NotAsked, ask, (0, 0), thing)
                if repr(thing) != "(0, 0)":
                    self.refused(keeper, NotAsked, ask, thing, (1, 1))
                self.refused(keeper, NotAsked, ask, thing, thing)
        keeper.forget((0, 0), (1, 1))
        self.refused(keeper, NotAsked, keeper.forget, (0, 0), (1, 1))
        self.refused(keeper, NotAsked, keeper.paper, (0, 0), (1, 1))

    def test_truths_are_no_worths(self):
        keeper = Keeper((2, 2))
        keeper.ask((0, 0), (1, 1))
        self.refused(keeper, NoStanding, keeper.ask, (False, 0), (1, 1))
        self.refused(keeper, NoStanding, keeper.ask, (0, 0), (1, True))
        self.refused(keeper, NotAsked, keeper.forget, (False, 0), (1, 1))
        self.refused(keeper, NotAsked, keeper.paper, (0, 0), (True, True))


class Rows(Case):
    def step(self, keeper, model, chance):
        """One thing done to both, with the same answers."""
        whole = all_standings(keeper.room)
        pair = (chance.choice(whole), chance.choice(whole))
        draw = chance.random()
        if draw < 0.35:
            self.assertIs(keeper.ask(*pair), model.ask(*pair))
        elif draw < 0.4 and model.papers:
            pair = chance.choice(sorted(model.papers))
            self.assertIs(keeper.forget(*pair), True)
            del model.papers[pair]
        elif draw < 0.65:
            free = [name for name in NAMES if name not in keeper.names()]
            name, wish = chance.choice(free), chance.choice(all_wishes(keeper.room))
            self.assertEqual(keeper.enter(name, wish), model.enter(name, wish))
        elif draw < 0.85 and model.rows:
            name = chance.choice(model.rows)[0]
            self.assertEqual(keeper.drop(name), model.drop(name))
        elif model.before:
            self.assertEqual(keeper.back(), model.back())
        else:
            self.refused(keeper, NoBack, keeper.back)

    def check_same(self, keeper, model):
        names, wishes, book, asked, papers = all_told(keeper)
        self.assertEqual(names, [name for name, wish in model.rows])
        self.assertEqual(wishes, [wish for name, wish in model.rows])
        self.assertEqual(book, tuple(wishes))
        self.assertEqual(asked, sorted(model.papers))
        self.assertEqual(papers, [model.papers[pair] for pair in asked])
        better = plain_better(model.leads())
        for (one, other), (word, row) in zip(asked, papers):
            self.assertEqual(word == "better", other in better[one])
            self.assertIs(lets(keeper.room, book, (word, one, other, row)), True)

    def test_rows_of_deeds(self):
        for seed, room in enumerate(((2,), (3,), (2, 2), (2, 3), (2, 2, 2))):
            for turn in range(4):
                chance = random.Random(10 * seed + turn)
                keeper, model = Keeper(room), Model(room)
                for _ in range(60):
                    self.step(keeper, model, chance)
                    self.check_same(keeper, model)
                while model.before:
                    self.assertEqual(keeper.back(), model.back())
                    self.check_same(keeper, model)
                self.refused(keeper, NoBack, keeper.back)

    def test_great_rooms(self):
        for room in ((2,) * 8, (4, 4, 4, 4)):
            row = snake(room)
            keeper = Keeper(room)
            for name, wish in zip(NAMES, row_book(row[:41])):
                keeper.enter(name, wish)
            for at in range(50):
                self.assertIs(keeper.ask(row[0], row[at]), 1 <= at <= 40)
                self.assertIs(keeper.ask(row[at], row[-1]), False)
            asked, changed = keeper.drop(NAMES[20])
            self.assertEqual(asked, sorted((row[0], row[at]) for at in range(21, 41)))
            self.assertEqual(changed, asked)
            self.assertEqual(keeper.enter("new", step_wish(row[99], row[98])), ([], []))
            self.assertEqual(keeper.back(), ([], []))
            # Sets that were shut without the wish aren't shut with it.
            asked, changed = keeper.back()
            self.assertEqual(len(keeper.asked()), 100)
            self.assertEqual(changed, sorted((row[0], row[at]) for at in range(21, 41)))


class Told(Case):
    def full_keeper(self):
        keeper = Keeper((2, 2))
        keeper.enter("a", UP)
        keeper.enter("b", WITH)
        for one, other in itertools.product(all_standings((2, 2)), repeat=2):
            keeper.ask(one, other)
        return keeper

    def test_told_lists_are_the_askers_own(self):
        keeper = self.full_keeper()
        before = copy.deepcopy(all_told(keeper))
        self.assertTrue(is_plain(before))
        spoil(all_told(keeper))
        self.assertEqual(all_told(keeper), before)
        spoil(keeper.names())
        spoil(keeper.asked())
        for pair in keeper.asked():
            spoil(keeper.paper(*pair))
        self.assertEqual(all_told(keeper), before)

    def test_told_deeds_are_the_askers_own(self):
        keeper, second = self.full_keeper(), self.full_keeper()
        for ask, handed in (("drop", ("a",)), ("back", ()), ("enter", ("c", DOWN)), ("drop", ("b",))):
            first = getattr(keeper, ask)(*handed)
            self.assertTrue(is_plain(first))
            self.assertIs(type(first), tuple)
            self.assertEqual([type(part) for part in first], [list, list])
            self.assertEqual(first, getattr(second, ask)(*handed))
            spoil(first)
            self.assertEqual(all_told(keeper), all_told(second))

    def test_told_lists_stay_as_they_are(self):
        keeper = self.full_keeper()
        told_before = all_told(keeper)
        kept_copy = copy.deepcopy(told_before)
        keeper.drop("a")
        keeper.enter("z", DOWN)
        keeper.forget((0, 0), (1, 1))
        self.assertEqual(told_before, kept_copy)

    def test_two_keepers_do_not_touch_one_another(self):
        first, second, third = Keeper((2, 2)), Keeper((2, 2)), Keeper((2,))
        first.enter("a", UP)
        first.ask((0, 0), (1, 0))
        self.assertEqual(all_told(second), ([], [], (), [], []))
        self.refused(second, NoBack, second.back)
        second.enter("a", DOWN)
        third.enter("a", UP)
        second.ask((0, 0), (1, 0))
        self.assertEqual(first.wish("a"), UP)
        self.assertEqual(first.paper((0, 0), (1, 0)), ("better", [(0, 0), (1, 0)]))
        self.assertEqual(second.paper((0, 0), (1, 0)), ("not", [(0, 0)]))
        self.assertEqual(third.asked(), [])


if __name__ == "__main__":
    unittest.main()
