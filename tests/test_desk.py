"""A desk: every line with its answer, and what is refused."""

import itertools
import random
import unittest

from allelse.bests import bests
from allelse.desk import Desk
from allelse.errors import (
    Full, NoBack, NoLine, NoName, NotAsked, NotKept, NotSettled, NoText, Taken, TooMany, Unknown, WishError,
)
from allelse.fewest import fewest
from allelse.hangs import order
from allelse.keeper import Keeper
from allelse.needless import needless
from allelse.reader import read_standing, read_standings, read_wish
from allelse.rings import lets_ring, ring_or_worths
from allelse.settled import settled
from allelse.sweep import best, swept
from allelse.texts import show_standing, show_standings, show_wish
from allelse.ways import compared
from support import (
    all_givens, all_standings, all_wishes, odd_things, plain_steps, refusal, rising, snake, step_wish,
)

WORDS = {
    "enter": 4, "drop": 2, "undo": 1, "names": 1, "wish": 2, "ask": 3, "why": 3, "forget": 3, "compare": 3, "state": 1,
    "order": 1, "best": 2, "bests": 2, "sweep": 3, "needless": 1, "fewest": 1,
}
# A right line of each kind, of a room of two boxes with two worths each.
LINES = (
    "enter c 0=0 1:0>1", "drop a", "undo", "names", "wish a", "ask 00 11", "why 00 11", "forget 01 10", "compare 00 11",
    "state", "order", "best -", "bests 0=1", "sweep 00 -", "needless", "fewest",
)


def show_given(given):
    return ",".join(str(box) + "=" + str(worth) for box, worth in given) or "-"


def desk_of(room, book, pairs=()):
    """A desk with these wishes and pairs."""
    desk = Desk(room)
    for name, wish in zip(("".join(row) for row in itertools.product("abcdefgh", repeat=2)), book):
        desk.say("enter " + name + " " + show_wish(wish))
    for one, other in pairs:
        desk.say("ask " + show_standing(one) + " " + show_standing(other))
    return desk


def small_desk():
    desk = Desk((2, 2))
    for line in ("enter a - 0:1>0", "enter b 0=1 1:1>0", "ask 01 10"):
        desk.say(line)
    return desk


def state_of(desk):
    """All that can be asked of a desk's keeper, and how far it goes back, without keeping more pairs."""
    keeper = desk.keeper
    papers = [keeper.paper(*pair) for pair in keeper.asked()]
    return (desk.say("names"), keeper.book(), keeper.asked(), papers)


class Case(unittest.TestCase):
    def refused(self, desk, kind, line):
        before = state_of(desk)
        error = refusal(self, desk.say, line)
        self.assertIs(type(error), kind, line)
        self.assertEqual(state_of(desk), before)
        return error

    def says(self, desk, line, wanted):
        told = desk.say(line)
        self.assertIs(type(told), str)
        self.assertEqual(told, wanted, line)


class Answers(Case):
    def test_a_row_of_lines(self):
        desk = Desk((2, 2))
        for line, wanted in (
            ("names", "-"), ("state", "worths 0 0 0 0"), ("order", "0 1"), ("bests -", "00 01 10 11"),
            ("needless", "-"), ("fewest", "-"), ("ask 00 11", "no"), ("why 00 11", "00"), ("compare 00 11", "apart"),
            ("enter up - 0:1>0", "ok 1 0"), ("why 00 11", "00 10"), ("enter with 0=1 1:1>0", "ok 1 1"),
            ("ask 00 11", "yes"), ("why 00 11", "00 10 11"), ("names", "up with"), ("wish up", "- 0:1>0"),
            ("wish with", "0=1 1:1>0"), ("compare 00 11", "better"), ("compare 11 00", "worse"),
            ("compare 01 01", "same"),
            ("compare 00 01", "apart"), ("state", "worths 0 0 1 2"), ("order", "0 1"), ("bests 0=0", "00 01"),
            ("bests 0=0,1=1", "01"), ("enter against 0=0 1:0>1", "ok 0 0"), ("best -", "11"), ("best 0=0", "00"),
            ("best 0=0,1=1", "01"), ("sweep 01 -", "01 11"), ("sweep 00 -", "00 10 11"), ("sweep 11 -", "11"),
            ("sweep 01 0=0", "01 00"), ("needless", "-"), ("enter twice 1=0 0:1>0", "ok 0 0"), ("needless", "0 3"),
            ("fewest", "- 0:1>0 ; 0=0 1:0>1 ; 0=1 1:1>0"), ("drop up", "ok 0 0"),
            ("undo", "ok 0 0"), ("undo", "ok 0 0"),
            ("names", "up with against"), ("drop up", "ok 1 1"), ("ask 00 11", "no"), ("undo", "ok 1 1"),
            ("forget 00 11", "ok"), ("names", "up with against"), ("undo", "ok 0 0"),
            ("undo", "ok 0 0"), ("undo", "ok 0 0"),
            ("names", "-"),
        ):
            if line == "fewest" and wanted != "-":
                self.assertEqual(sorted(desk.say(line).split(" ; ")), sorted(wanted.split(" ; ")))
            else:
                self.says(desk, line, wanted)
        self.refused(desk, NoBack, "undo")

    def test_rings(self):
        desk = desk_of((2,), (((), 0, 1, 0), ((), 0, 0, 1)))
        self.assertIn(desk.say("state"), ("ring 0 1", "ring 1 0"))
        self.says(desk, "compare 0 1", "both")
        self.says(desk, "ask 0 0", "yes")
        self.says(desk, "why 0 0", "0 1 0")
        self.says(desk, "bests -", "-")
        self.says(desk, "bests 0=1", "1")
        desk = desk_of((2, 2), ((((1, 1),), 0, 1, 0), (((0, 1),), 1, 1, 0)))
        self.assertIn(desk.say("order"), ("ring 0 1", "ring 1 0"))
        self.says(desk, "state", "worths 0 0 0 1")

    def test_why_asks_too(self):
        desk = small_desk()
        self.says(desk, "why 10 00", "10 11")
        self.assertEqual(desk.keeper.asked(), [((0, 1), (1, 0)), ((1, 0), (0, 0))])
        self.says(desk, "forget 10 00", "ok")
        self.refused(desk, NotAsked, "forget 10 00")

    def test_why_tells_the_kept_paper(self):
        desk = desk_of((3,), (((), 0, 1, 0), ((), 0, 2, 1)))
        self.says(desk, "why 0 2", "0 1 2")
        self.says(desk, "enter short - 0:2>0", "ok 0 0")
        self.says(desk, "why 0 2", "0 1 2")
        self.says(desk, "forget 0 2", "ok")
        self.says(desk, "why 0 2", "0 2")

    def test_how_many_were_asked_anew_and_changed(self):
        desk = desk_of((2, 2), (), itertools.product(all_standings((2, 2)), repeat=2))
        self.says(desk, "enter a - 0:1>0", "ok 8 2")
        self.says(desk, "drop a", "ok 2 2")
        # The sets of the other six are as they were, and hold.
        self.says(desk, "undo", "ok 2 2")

    def test_numbers_of_more_than_one_figure(self):
        row = snake((4, 4))
        desk = desk_of((4, 4), [step_wish(one, other) for one, other in zip(row, row[1:])])
        word, *worths = desk.say("state").split(" ")
        self.assertEqual((word, sorted(map(int, worths))), ("worths", list(range(16))))
        desk = desk_of((2,), (((), 0, 1, 0),) * 12)
        self.says(desk, "needless", "0 1 2 3 4 5 6 7 8 9 10 11")

    def test_against_the_functions(self):
        chance = random.Random(170)
        for room in ((2,), (3,), (2, 2), (2, 3), (2, 2, 2)):
            for turn in range(6):
                book = tuple(chance.choice(all_wishes(room)) for _ in range(chance.randint(0, 8)))
                book = rising(room) if turn == 5 else book
                self.check(room, book, desk_of(room, book))

    def check(self, room, book, desk):
        for one, other in list(itertools.product(all_standings(room), repeat=2))[:40]:
            pair = show_standing(one) + " " + show_standing(other)
            self.says(desk, "compare " + pair, compared(room, book, one, other))
        word, thing = ring_or_worths(room, book)
        if word == "ring":
            said, ring = desk.say("state").split(" ", 1)
            self.assertEqual(said, "ring")
            self.assertIs(lets_ring(room, book, read_standings(room, ring)), True)
        else:
            self.says(desk, "state", "worths " + " ".join(map(str, thing)))
        word, boxes = order(room, book)
        shown = " ".join(map(str, boxes))
        self.says(desk, "order", shown if word == "order" else "ring " + shown)
        self.says(desk, "needless", " ".join(map(str, needless(room, book))) or "-")
        rows = desk.say("fewest")
        few = tuple(read_wish(room, row) for row in rows.split(" ; ")) if rows != "-" else ()
        self.assertEqual(plain_steps(room, few).keys(), plain_steps(room, book).keys())
        self.assertEqual({one: sorted(there) for one, there in plain_steps(room, few).items()},
                         {one: sorted(there) for one, there in plain_steps(room, book).items()})
        self.assertEqual(len(few), len(fewest(room, book)))
        for given in all_givens(room):
            self.check_given(room, book, desk, given)

    def check_given(self, room, book, desk, given):
        self.says(desk, "bests " + show_given(given), show_standings(bests(room, book, given)))
        why = settled(room, book)
        first = show_standing(all_standings(room)[-1])
        if why is not None:
            self.assertEqual(self.refused(desk, NotSettled, "best " + show_given(given)).why, why)
            self.assertEqual(self.refused(desk, NotSettled, "sweep " + first + " " + show_given(given)).why, why)
            return
        top = best(room, book, given)
        self.says(desk, "best " + show_given(given), show_standing(top))
        for standing in all_standings(room):
            line = "sweep " + show_standing(standing) + " " + show_given(given)
            if all(standing[box] == worth for box, worth in given):
                self.says(desk, line, show_standings(swept(room, book, standing, given)))
            else:
                self.refused(desk, NotKept, line)

    def test_against_a_keeper(self):
        for room in ((2,), (2, 2), (3, 2)):
            chance, desk, keeper = random.Random(180), Desk(room), Keeper(room)
            for _ in range(150):
                self.step(room, desk, keeper, chance)
                self.assertEqual(desk.say("names"), " ".join(keeper.names()) or "-")
                for name in keeper.names():
                    self.says(desk, "wish " + name, show_wish(keeper.wish(name)))

    def step(self, room, desk, keeper, chance):
        """One line, and the same asked of a keeper."""
        one, other = chance.choice(all_standings(room)), chance.choice(all_standings(room))
        name, wish = chance.choice("abcdef"), chance.choice(all_wishes(room))
        pair = show_standing(one) + " " + show_standing(other)
        line, ask, handed = chance.choice((
            ("enter " + name + " " + show_wish(wish), keeper.enter, (name, wish)),
            ("drop " + name, keeper.drop, (name,)),
            ("undo", keeper.back, ()), ("ask " + pair, keeper.ask, (one, other)),
            ("why " + pair, keeper.ask, (one, other)),
            ("forget " + pair, keeper.forget, (one, other)),
        ))
        try:
            told = ask(*handed)
        except WishError as error:
            self.refused(desk, type(error), line)
            return
        if line.startswith("why"):
            self.says(desk, line, show_standings(keeper.paper(one, other)[1]))
        elif line.startswith("ask"):
            self.says(desk, line, "yes" if told else "no")
        elif line.startswith("forget"):
            self.says(desk, line, "ok")
        else:
            self.says(desk, line, "ok " + str(len(told[0])) + " " + str(len(told[1])))

    def test_great_rooms(self):
        room = (2,) * 8
        desk = desk_of(room, rising(room))
        self.says(desk, "best -", "11111111")
        self.says(desk, "best 3=0,7=0", "11101110")
        self.says(desk, "bests 0=0", "01111111")
        self.says(desk, "ask 00000000 11111111", "yes")
        self.says(desk, "compare 00000001 10000000", "apart")
        self.says(desk, "order", "0 1 2 3 4 5 6 7")
        self.says(desk, "sweep 01111110 -", "01111110 11111110 11111111")
        self.assertEqual(len(desk.say("why 11111111 00000000").split(" ")), 1)
        self.assertEqual(len(desk.say("why 00000000 00000000").split(" ")), 256)
        self.refused(desk, TooMany, "needless")
        self.refused(desk, TooMany, "fewest")


class Refused(Case):
    def test_what_is_no_text(self):
        desk = small_desk()
        for thing in odd_things() + [["names"], ("names",), {"names": 1}, list("names")]:
            self.refused(desk, NoLine, thing)

    def test_first_words_that_are_none_of_these(self):
        desk = small_desk()
        for line in ("", " ", "  ", "-", "Names", "NAMES", "name", "names\n", "\nnames",
                     " names", "back", "say", "reached",
                     "laid", "settled", "hangs", "play", "quit", "names,", "ask,00,11", "enter\ta", "why", "wishes a"):
            self.refused(desk, NoLine, line)
        for word in ("enters", "dro", "Undo", "asks", "whys", "forgets", "told", "states", "orders", "bes", "fewes"):
            for many in range(5):
                self.refused(desk, NoLine, " ".join([word] + ["00"] * many))

    def test_words_too_few_and_too_many(self):
        for line in LINES:
            words = line.split(" ")
            self.assertEqual(WORDS[words[0]], len(words))
            desk = small_desk()
            for many in range(7):
                for more in ("00", "", "-", "x"):
                    if many + 1 != len(words):
                        self.refused(desk, NoLine, " ".join(words[:1] + [more] * many))
            self.refused(desk, NoLine, line + " ")
            self.refused(desk, NoLine, " " + line)
            self.refused(desk, NoLine, line + " x")
            if len(words) > 1:
                self.refused(desk, NoLine, words[0])
                self.refused(desk, NoLine, " ".join(words[:-1]))
                self.refused(desk, NoLine, line.replace(" ", "  ", 1))
            self.assertIs(type(desk.say(line) if words[0] not in ("best", "sweep") else ""), str)

    def test_a_word_without_signs_is_a_word_like_others(self):
        desk = small_desk()
        self.assertEqual(self.refused(desk, Unknown, "drop ").name, "")
        self.assertEqual(self.refused(desk, Unknown, "wish ").name, "")
        self.refused(desk, NoName, "enter  - 0:1>0")
        self.refused(desk, NoText, "enter a  0:1>0")
        self.refused(desk, NoText, "enter a - ")
        self.refused(desk, NoText, "ask  00")
        self.refused(desk, NoText, "ask 00 ")
        self.refused(desk, NoText, "why  ")
        self.refused(desk, NoText, "best ")
        self.refused(desk, NoText, "bests ")
        self.refused(desk, NoText, "sweep  -")
        self.refused(desk, NoText, "sweep 00 ")
        self.refused(desk, NoLine, "names ")
        self.refused(desk, NoLine, " names")

    def test_what_is_not_written_as_it_must_be(self):
        desk = small_desk()
        for one in ("0", "000", "02", "20", "0a", "-", "0\n0", "00\n", "(0,", "ab"):
            for word in ("ask", "why", "forget", "compare"):
                self.refused(desk, NoText, word + " " + one + " 00")
                self.refused(desk, NoText, word + " 00 " + one)
                self.refused(desk, NoText, word + " " + one + " " + one)
            self.refused(desk, NoText, "sweep " + one + " -")
        for given in ("x", "--", "0", "0=2", "2=0", "0=", "=0", "0=0,", ",0=0",
                      "1=0,0=0", "0=0,0=0", "0=0,0=1", "00=0", "0=00",
                      "0:0", "-,0=0", "0=0\n", "()"):
            self.refused(desk, NoText, "best " + given)
            self.refused(desk, NoText, "bests " + given)
            self.refused(desk, NoText, "sweep 00 " + given)
            self.refused(desk, NoText, "enter c " + given + " 1:0>1")
        for wish in ("0:1>2", "0:0>0", "2:0>1", "0=1>0", "0:1<0", "00:1>0", "0:1>0\n", "0", "-"):
            self.refused(desk, NoText, "enter c - " + wish)
        self.refused(desk, NoText, "enter c 0=1 0:1>0")

    def test_no_text_goes_ahead_of_what_the_points_tell(self):
        desk = small_desk()
        self.refused(desk, NoText, "enter A - 0:1>1")
        self.refused(desk, NoText, "enter a - 0:1>1")
        self.refused(desk, NoName, "enter A - 0:1>0")
        self.refused(desk, Taken, "enter a - 0:1>0")
        self.refused(desk, NoText, "forget 00 02")
        self.refused(desk, NotAsked, "forget 00 01")
        self.refused(desk, NoText, "best 0=2")
        self.refused(desk, NotSettled, "best 0=1")
        self.refused(desk, NoText, "sweep 00 1=2")
        self.refused(desk, NotSettled, "sweep 00 0=1")
        desk.say("enter c 0=0 1:0>1")
        self.refused(desk, NotKept, "sweep 00 0=1")
        self.refused(desk, NoText, "sweep 02 0=1")

    def test_a_name_may_be_any_word(self):
        desk = small_desk()
        for name in ("A", "1", "-", "abcdefghi", "a\n", "a,b", "names", "0=1", "~" * 5000, ""):
            if name != "names":
                self.refused(desk, NoName, "enter " + name + " - 0:1>0")
            self.assertEqual(self.refused(desk, Unknown, "drop " + name).name, name)
            self.assertEqual(self.refused(desk, Unknown, "wish " + name).name, name)
        self.says(desk, "enter names - 0:1>0", "ok 0 0")
        self.says(desk, "enter abcdefgh - 0:1>0", "ok 0 0")
        self.says(desk, "drop names", "ok 0 0")

    def test_full(self):
        desk = desk_of((2,), (((), 0, 1, 0),) * 40)
        self.refused(desk, Full, "enter new - 0:1>0")
        self.refused(desk, TooMany, "needless")
        self.says(desk, "fewest", "- 0:1>0")
        pairs = list(itertools.product(all_standings((4, 4)), repeat=2))
        desk = desk_of((4, 4), (), pairs[:100])
        line = show_standing(pairs[100][0]) + " " + show_standing(pairs[100][1])
        self.refused(desk, Full, "ask " + line)
        self.refused(desk, Full, "why " + line)
        self.says(desk, "compare " + line, "apart")
        self.says(desk, "ask 00 01", "no")
        self.says(desk, "why 00 01", "00")

    def test_too_many(self):
        desk = desk_of((2,) * 7, ())
        self.refused(desk, TooMany, "needless")
        self.refused(desk, TooMany, "fewest")
        desk = desk_of((2,), (((), 0, 1, 0),) * 25)
        self.refused(desk, TooMany, "needless")
        self.says(desk, "undo", "ok 0 0")
        self.says(desk, "needless", " ".join(map(str, range(24))))
        desk = desk_of((2,) * 5, (((), 0, 1, 0),))
        self.refused(desk, TooMany, "fewest")
        self.says(desk, "needless", "-")

    def test_back_behind_refusals(self):
        desk = Desk((2, 2))
        self.refused(desk, NoBack, "undo")
        desk.say("enter a - 0:1>0")
        for line in ("undo ", "enter a - 0:1>0", "enter B - 0:1>0", "drop b", "enter b - 0:1>1", "forget 00 01", None):
            refusal(self, desk.say, line)
        self.says(desk, "undo", "ok 0 0")
        self.says(desk, "names", "-")
        self.refused(desk, NoBack, "undo")


class TwoDesks(Case):
    def test_they_do_not_touch_one_another(self):
        first, second = Desk((2, 2)), Desk((2, 2))
        first.say("enter a - 0:1>0")
        first.say("ask 00 10")
        self.says(second, "names", "-")
        self.refused(second, NoBack, "undo")
        self.refused(second, NotAsked, "forget 00 10")
        second.say("enter a - 0:0>1")
        self.says(first, "wish a", "- 0:1>0")
        self.says(second, "wish a", "- 0:0>1")
        self.says(first, "ask 00 10", "yes")
        self.says(second, "ask 00 10", "no")

    def test_two_of_other_rooms(self):
        first, second = Desk((2,)), Desk((3, 2))
        self.refused(first, NoText, "ask 00 11")
        self.says(second, "ask 00 11", "no")
        self.assertEqual(read_standing((3, 2), second.say("why 20 20")), (2, 0))


if __name__ == "__main__":
    unittest.main()
