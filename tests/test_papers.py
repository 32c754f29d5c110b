"""Papers of every word, looked at whoever wrote them."""

import itertools
import unittest

from allelse.alike import parted
from allelse.bests import bests
from allelse.hangs import order
from allelse.needless import needless
from allelse.papers import lets
from allelse.rings import ring_or_worths
from allelse.sweep import best, swept
from allelse.ways import told
from support import (
    GREAT, all_givens, all_standings, check_truth, is_kept, kept, not_held, odd_things, plain_better, plain_hangs,
    plain_pairs, plain_steps, right_ring, right_shut, right_way, right_worths, rising, row_book, settled_books, snake,
    some_books, spoilt,
)

ROOMS = ((2,), (3,), (2, 2), (3, 2), (2, 2, 2))
GREAT_ROOMS = ((2,) * 8, (4, 4, 4, 4))
UP = ((), 0, 1, 0)
DOWN = ((), 0, 0, 1)
# Box 0 rises, box 1 goes with it.
GOES_WITH = (UP, (((0, 1),), 1, 1, 0), (((0, 0),), 1, 0, 1))
ROUND = (UP, (((0, 1),), 1, 1, 0), (((1, 1),), 0, 0, 1), (((0, 0),), 1, 0, 1))
RING = [(0, 0), (1, 0), (1, 1), (0, 1)]
WORDS = ("better", "not", "ring", "worths", "order", "needed", "best")


def is_one(room, thing):
    return repr(thing) in [repr(standing) for standing in all_standings(room)]


def right_order(room, leads, boxes):
    if type(boxes) is not list or [box for box in boxes if type(box) is not int]:
        return False
    if sorted(boxes) != list(range(len(room))):
        return False
    hanging = plain_hangs(room, plain_pairs(room, leads))
    return all(boxes.index(other) < boxes.index(box) for box, other in hanging)


def right_best(room, leads, given, standing, ways):
    if repr(given) not in [repr(one) for one in all_givens(room)] or not is_one(room, standing):
        return False
    steps = not_held(leads, [box for box, worth in given])
    if not is_kept(standing, given) or steps[standing] or type(ways) is not list:
        return False
    others = [one for one in kept(room, given) if one != standing]
    if len(ways) != len(others):
        return False
    return all(right_way(room, steps, one, standing, way) for one, way in zip(others, ways))


def right_paper(room, book, leads, thing):
    """Whether a thing is a paper that is let by, said by the steps."""
    if type(thing) is not tuple or not thing or type(thing[0]) is not str:
        return False
    word, parts = thing[0], thing[1:]
    if word in ("better", "not") and len(parts) == 3:
        look = right_way if word == "better" else right_shut
        return is_one(room, parts[0]) and is_one(room, parts[1]) and look(room, leads, *parts)
    if word == "ring" and len(parts) == 1:
        return right_ring(room, leads, parts[0])
    if word == "worths" and len(parts) == 1:
        return right_worths(leads, parts[0])
    if word == "order" and len(parts) == 1:
        return right_order(room, leads, parts[0])
    if word == "needed" and len(parts) == 5:
        at, one, other, way, shut = parts
        if type(at) is not int or not 0 <= at < len(book) or not is_one(room, one) or not is_one(room, other):
            return False
        less = plain_steps(room, book[:at] + book[at + 1:])
        return right_way(room, leads, one, other, way) and right_shut(room, less, one, other, shut)
    if word == "best" and len(parts) == 3:
        return right_best(room, leads, *parts)
    return False


def needed_papers(room, book):
    """A paper of needed for each wish that is, told by the program."""
    papers = []
    for at in range(len(book)):
        less = book[:at] + book[at + 1:]
        parts = parted(room, book, less)
        if parts is not None:
            papers.append(("needed", at) + parts[2:])
    return papers


def best_paper(room, book, given):
    """A paper of best of a settled book, told by sweeps."""
    top = best(room, book, given)
    return ("best", given, top, [swept(room, book, one, given) for one in kept(room, given) if one != top])


class Lets(unittest.TestCase):
    def check(self, room, book, things):
        leads = plain_steps(room, book)
        told_true = 0
        for thing in things:
            wanted = right_paper(room, book, leads, thing)
            check_truth(self, wanted, lets, room, book, thing)
            told_true += wanted
        return told_true

    def test_better(self):
        check_truth(self, True, lets, (2, 2), GOES_WITH, ("better", (0, 0), (1, 1), [(0, 0), (1, 0), (1, 1)]))
        check_truth(self, True, lets, (2, 2), ROUND, ("better", (0, 0), (0, 0), RING + RING[:1]))
        check_truth(self, True, lets, (2, 2), ROUND, ("better", (0, 0), (1, 0), RING + RING[:2]))
        check_truth(self, False, lets, (2, 2), GOES_WITH, ("better", (0, 0), (1, 1), [(0, 0), (0, 1), (1, 1)]))
        check_truth(self, False, lets, (2, 2), GOES_WITH, ("better", (0, 0), (0, 0), [(0, 0)]))
        check_truth(self, False, lets, (2, 2), GOES_WITH, ("better", (0, 0), (1, 0), [(0, 0), (1, 0), (1, 1)]))
        check_truth(self, False, lets, (2, 2), GOES_WITH, ("better", (0, 1), (1, 1), [(0, 0), (1, 0), (1, 1)]))

    def test_not(self):
        check_truth(self, True, lets, (2, 2), GOES_WITH, ("not", (1, 0), (0, 0), [(1, 0), (1, 1)]))
        check_truth(self, False, lets, (2, 2), GOES_WITH, ("not", (1, 0), (0, 0), [(1, 0)]))
        check_truth(self, False, lets, (2, 2), GOES_WITH, ("not", (1, 0), (0, 0), [(1, 1)]))
        check_truth(self, False, lets, (2, 2), GOES_WITH, ("not", (0, 0), (1, 1), all_standings((2, 2))))
        # Other may be in the set where nothing leads to it.
        check_truth(self, True, lets, (2, 2), GOES_WITH, ("not", (1, 0), (0, 1), all_standings((2, 2))))
        check_truth(self, False, lets, (2, 2), GOES_WITH, ("not", (1, 0), (0, 0), all_standings((2, 2))))
        check_truth(self, True, lets, (2, 2), GOES_WITH, ("not", (0, 1), (0, 1), all_standings((2, 2))))

    def test_ring_and_worths(self):
        check_truth(self, True, lets, (2, 2), ROUND, ("ring", RING))
        check_truth(self, False, lets, (2, 2), ROUND, ("ring", RING[::-1]))
        check_truth(self, False, lets, (2, 2), ROUND, ("ring", RING + RING[:1]))
        check_truth(self, False, lets, (2, 2), GOES_WITH, ("ring", RING))
        check_truth(self, True, lets, (2, 2), GOES_WITH, ("worths", (1, 0, 2, 3)))
        check_truth(self, True, lets, (2, 2), GOES_WITH, ("worths", (-1, -GREAT, 0, GREAT)))
        check_truth(self, False, lets, (2, 2), GOES_WITH, ("worths", (1, 1, 2, 3)))
        check_truth(self, False, lets, (2, 2), GOES_WITH, ("worths", (1, 0, 2)))
        check_truth(self, False, lets, (2, 2), GOES_WITH, ("worths", (True, False, 2, 3)))

    def test_order(self):
        check_truth(self, True, lets, (2, 2), GOES_WITH, ("order", [0, 1]))
        check_truth(self, False, lets, (2, 2), GOES_WITH, ("order", [1, 0]))
        check_truth(self, False, lets, (2, 2), GOES_WITH, ("order", (0, 1)))
        check_truth(self, False, lets, (2, 2), GOES_WITH, ("order", [False, True]))
        check_truth(self, False, lets, (2, 2), ROUND, ("order", [0, 1]))
        check_truth(self, False, lets, (2, 2), ROUND, ("order", [1, 0]))
        # Where nothing hangs each order is let by, not only the one that is told.
        for boxes in itertools.permutations(range(3)):
            check_truth(self, True, lets, (2, 2, 2), (), ("order", list(boxes)))
            check_truth(self, boxes.index(0) < boxes.index(1), lets, (2, 2, 2), GOES_WITH, ("order", list(boxes)))
        for boxes in ([], [0], [0, 1], [0, 1, 1], [0, 1, 2, 2], [0, 1, 3], [0, 1, -1], [0, 1, 2, 3], [0, 1, GREAT]):
            check_truth(self, False, lets, (2, 2, 2), (), ("order", boxes))

    def test_needed(self):
        paper = ("needed", 0, (0,), (1,), [(0,), (1,)], [(0,)])
        check_truth(self, True, lets, (2,), (UP,), paper)
        check_truth(self, True, lets, (2,), (UP, DOWN), paper)
        # A wish alike another one isn't needed, whichever of the two.
        check_truth(self, False, lets, (2,), (UP, UP), paper)
        check_truth(self, False, lets, (2,), (UP, UP), ("needed", 1) + paper[2:])
        check_truth(self, False, lets, (2,), (UP, DOWN), ("needed", 1) + paper[2:])
        check_truth(self, False, lets, (2,), (DOWN, UP), paper)
        check_truth(self, True, lets, (2,), (DOWN, UP), ("needed", 1) + paper[2:])
        check_truth(self, False, lets, (2,), (DOWN,), paper)
        check_truth(self, False, lets, (2,), (), paper)
        for at in (1, -1, -2, GREAT, -GREAT, False, True, None, "0", (0,), [0], {}):
            check_truth(self, False, lets, (2,), (UP,), ("needed", at) + paper[2:])
            check_truth(self, False, lets, (2,), (UP, ((), 0, 1, 0)), ("needed", at) + paper[2:])
        # A number below 0 is no wish's, though Python finds one by it.
        three = (((), 0, 1, 0), ((), 0, 2, 1), ((), 0, 3, 2))
        check_truth(self, True, lets, (4,), three, ("needed", 1, (1,), (2,), [(1,), (2,)], [(1,)]))
        for at in (-1, -2, -3, -4, 3, 4):
            check_truth(self, False, lets, (4,), three, ("needed", at, (1,), (2,), [(1,), (2,)], [(1,)]))
        # The way is one by the book, though it needn't go by that wish; the set shows without the wish.
        chain = (((), 0, 1, 0), ((), 0, 2, 1), ((), 0, 2, 0))
        check_truth(self, False, lets, (3,), chain, ("needed", 2, (0,), (2,), [(0,), (2,)], [(0,)]))
        check_truth(self, True, lets, (3,), chain, ("needed", 1, (1,), (2,), [(1,), (2,)], [(1,)]))
        check_truth(self, False, lets, (3,), chain, ("needed", 1, (1,), (2,), [(1,), (2,)], [(1,), (2,), (0,)]))

    def test_best(self):
        ways = [[(0, 0), (1, 0), (1, 1)], [(0, 1), (1, 1)], [(1, 0), (1, 1)]]
        check_truth(self, True, lets, (2, 2), GOES_WITH, ("best", (), (1, 1), ways))
        longer = [[(0, 0), (1, 0), (1, 1)], [(0, 1), (0, 0), (1, 0), (1, 1)], [(1, 0), (1, 1)]]
        check_truth(self, True, lets, (2, 2), GOES_WITH, ("best", (), (1, 1), longer))
        for row in itertools.permutations(ways):
            check_truth(self, list(row) == ways, lets, (2, 2), GOES_WITH, ("best", (), (1, 1), list(row)))
        for at in range(3):
            check_truth(self, False, lets, (2, 2), GOES_WITH, ("best", (), (1, 1), ways[:at] + ways[at + 1:]))
        check_truth(self, False, lets, (2, 2), GOES_WITH, ("best", (), (1, 1), ways + [[(1, 1)]]))
        check_truth(self, False, lets, (2, 2), GOES_WITH, ("best", (), (1, 0), ways))
        check_truth(self, False, lets, (2, 2), GOES_WITH, ("best", (), (1, 1), tuple(ways)))
        check_truth(self, False, lets, (2, 2), ROUND, ("best", (), (1, 1), ways))

    def test_best_for_givens(self):
        check_truth(self, True, lets, (2, 2), GOES_WITH, ("best", ((0, 0),), (0, 0), [[(0, 1), (0, 0)]]))
        # By a way that leaves the given it isn't shown.
        check_truth(self, True, lets, (2, 2), GOES_WITH, ("best", ((1, 1),), (1, 1), [[(0, 1), (1, 1)]]))
        round_about = [[(0, 1), (0, 0), (1, 0), (1, 1)]]
        check_truth(self, False, lets, (2, 2), GOES_WITH, ("best", ((1, 1),), (1, 1), round_about))
        check_truth(self, False, lets, (2, 2), GOES_WITH, ("best", ((0, 0),), (1, 1), [[(0, 1), (1, 1)]]))
        # The standing may be bettered at a box of the given.
        for standing in all_standings((2, 2)):
            given = tuple(enumerate(standing))
            check_truth(self, True, lets, (2, 2), GOES_WITH, ("best", given, standing, []))
            check_truth(self, True, lets, (2, 2), ROUND, ("best", given, standing, []))
            check_truth(self, False, lets, (2, 2), GOES_WITH, ("best", given, standing, [[standing]]))
            check_truth(self, False, lets, (2, 2), GOES_WITH, ("best", given, standing, ()))
            for other in all_standings((2, 2)):
                if other != standing:
                    check_truth(self, False, lets, (2, 2), GOES_WITH, ("best", given, other, []))

    def test_what_is_told_is_let_by(self):
        found = dict.fromkeys(WORDS, 0)
        for room in ROOMS:
            for book in some_books(room, 5, 4, 95) + some_books(room, 5, 10, 96) + settled_books(room, 3, 97):
                papers = [ring_or_worths(room, book)] + needed_papers(room, book)
                papers += [order(room, book)] if order(room, book)[0] == "order" else []
                for one, other in itertools.product(all_standings(room), repeat=2):
                    word, row = told(room, book, one, other)
                    papers.append((word, one, other, row))
                for paper in papers:
                    found[paper[0]] += 1
                self.assertEqual(self.check(room, book, papers), len(papers))
                needed = [paper[1] for paper in needed_papers(room, book)]
                self.assertEqual(sorted(needed + needless(room, book)), list(range(len(book))))
            for book in settled_books(room, 4, 98):
                papers = [best_paper(room, book, given) for given in all_givens(room)]
                self.assertEqual(self.check(room, book, papers), len(papers))
                found["best"] += len(papers)
        self.assertGreater(min(found.values()), 5, found)

    def test_what_is_let_by_is_so(self):
        room = (3,)
        rows = [list(row) for many in range(4) for row in itertools.product(all_standings(room), repeat=many)]
        for book in some_books(room, 4, 4, 99) + settled_books(room, 2, 100):
            better = plain_better(plain_steps(room, book))
            has_ring = bool([one for one in better if one in better[one]])
            for one, other in itertools.product(all_standings(room), repeat=2):
                for row in rows:
                    if lets(room, book, ("better", one, other, row)):
                        self.assertIn(other, better[one])
                    if lets(room, book, ("not", one, other, row)):
                        self.assertNotIn(other, better[one])
            for row in rows:
                self.assertTrue(has_ring or not lets(room, book, ("ring", row)))
            for worths in itertools.product(range(3), repeat=3):
                self.assertFalse(has_ring and lets(room, book, ("worths", worths)))
            for ways in itertools.product([row for row in rows if len(row) > 1][::3], repeat=2):
                for one in all_standings(room):
                    if lets(room, book, ("best", (), one, list(ways))):
                        self.assertEqual(bests(room, book, ()), [one])

    def right_papers(self):
        """A few rooms and books with a paper of each word that is let by."""
        ways = [[(0, 0), (1, 0), (1, 1)], [(0, 1), (1, 1)], [(1, 0), (1, 1)]]
        return [
            ((2, 2), GOES_WITH, ("better", (0, 0), (1, 1), [(0, 0), (1, 0), (1, 1)])),
            ((2, 2), GOES_WITH, ("not", (1, 0), (0, 0), [(1, 0), (1, 1)])),
            ((2, 2), ROUND, ("ring", RING)),
            ((2, 2), GOES_WITH, ("worths", (1, 0, 2, 3))),
            ((2, 2), GOES_WITH, ("order", [0, 1])),
            ((2, 2), GOES_WITH, ("needed", 1, (1, 0), (1, 1), [(1, 0), (1, 1)], [(1, 0)])),
            ((2, 2), GOES_WITH, ("best", (), (1, 1), ways)),
            ((2, 2), GOES_WITH, ("best", ((0, 0),), (0, 0), [[(0, 1), (0, 0)]])),
            ((2, 2), (), ("not", (0, 0), (0, 0), [(0, 0)])),
            ((2, 2), (), ("worths", (0, 0, 0, 0))),
        ]

    def test_of_anything(self):
        for room, book, paper in self.right_papers():
            self.assertEqual(self.check(room, book, [paper]), 1)
            self.check(room, book, odd_things() + spoilt(paper))

    def test_the_word_of_another_paper(self):
        for room, book, paper in self.right_papers():
            for word in WORDS + ("", "Better", "both", "tops", "better ", "b"):
                check_truth(self, word == paper[0], lets, room, book, (word,) + paper[1:])
            for thing in odd_things():
                check_truth(self, False, lets, room, book, (thing,) + paper[1:])
                check_truth(self, False, lets, room, book, paper + (thing,))
                for at in range(1, len(paper)):
                    self.check(room, book, [paper[:at] + (thing,) + paper[at + 1:]])

    def test_words_by_themselves(self):
        for word in WORDS:
            for many in range(7):
                for thing in (None, 0, True, "", (), [], {}, (0, 0), [(0, 0)]):
                    self.check((2, 2), GOES_WITH, [(word,) + (thing,) * many, [word] + [thing] * many])
        check_truth(self, False, lets, (2, 2), (), "better")
        check_truth(self, False, lets, (2, 2), (), {"better": 0})

    def test_standings_of_another_room(self):
        for other in ((2,), (2, 2, 2), (3, 3)):
            top = tuple(worths - 1 for worths in other)
            row = swept(other, rising(other), (0,) * len(other), ())
            check_truth(self, False, lets, (2, 2), rising((2, 2)), ("better", row[0], top, row))
            check_truth(self, False, lets, (2, 2), rising((2, 2)), ("not", top, row[0], [top]))
            check_truth(self, False, lets, (2, 2), ROUND, ("ring", row))
            check_truth(self, False, lets, (2, 2), (), ("worths", (0,) * (len(all_standings(other)) + 1)))
            check_truth(self, False, lets, (2, 2), (), ("order", list(range(len(other) + 3))))
            check_truth(self, False, lets, (2, 2), rising((2, 2)), best_paper(other, rising(other), ()))

    def test_great_rooms(self):
        for room in GREAT_ROOMS:
            row = snake(room)
            book = row_book(row)
            ways = [row[row.index(one):] for one in all_standings(room) if one != row[-1]]
            papers = [
                ("better", row[3], row[200], row[3:201]), ("not", row[3], row[0], sorted(row[3:])),
                ring_or_worths(room, book), ("needed", 7, row[7], row[8], row[7:9], [row[7]]),
            ]
            for paper in papers:
                check_truth(self, True, lets, room, book, paper)
                check_truth(self, False, lets, room, row_book(row[::-1]), paper)
            check_truth(self, True, lets, room, rising(room), ("order", list(range(len(room)))[::-1]))
            check_truth(self, True, lets, room, book + row_book(row[-1:] + row[:1]), ("ring", row))
            check_truth(self, False, lets, room, book, ("ring", row))
            check_truth(self, True, lets, room, book, ("best", (), row[-1], ways))
            check_truth(self, False, lets, room, book[1:], ("best", (), row[-1], ways))
            top = tuple(worths - 1 for worths in room)
            up_ways = [told(room, rising(room), one, top)[1] for one in all_standings(room) if one != top]
            paper = ("best", (), top, up_ways)
            check_truth(self, True, lets, room, rising(room) * 10, paper)
            check_truth(self, False, lets, room, rising(room)[1:] * 10, paper)
            check_truth(self, False, lets, room, book, paper)


if __name__ == "__main__":
    unittest.main()
