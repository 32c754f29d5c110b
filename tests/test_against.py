"""Papers against one another."""

import itertools
import unittest

from allelse.against import against
from allelse.hangs import order
from allelse.papers import lets
from allelse.rings import ring_or_worths
from allelse.sweep import best
from allelse.settled import settled
from allelse.ways import told
from support import (
    all_givens, all_standings, check_truth, kept, row_book, settled_books, snake, some_books,
)

ROOMS = ((2,), (3,), (2, 2), (3, 2))
UP = ((), 0, 1, 0)
DOWN = ((), 0, 0, 1)
BETTER = ("better", (0,), (1,), [(0,), (1,)])
NOT = ("not", (0,), (1,), [(0,)])
RING = ("ring", [(0,), (1,)])
WORTHS = ("worths", (0, 1))
ORDER = ("order", [0])
NEEDED = ("needed", 0, (0,), (1,), [(0,), (1,)], [(0,)])
BEST = ("best", (), (1,), [[(0,), (1,)]])
OTHER_BEST = ("best", (), (0,), [[(1,), (0,)]])


def pair_papers(room, book):
    """A paper of better or of not for each pair, told by the program."""
    papers = []
    for one, other in itertools.product(all_standings(room), repeat=2):
        word, row = told(room, book, one, other)
        papers.append((word, one, other, row))
    return papers


def best_papers(room, book):
    """A paper of best for each given of a settled book."""
    if settled(room, book) is not None:
        return []
    papers = []
    for given in all_givens(room):
        top, held = best(room, book, given), tuple(box for box, worth in given)
        ways = [told(room, book, one, top, held)[1] for one in kept(room, given) if one != top]
        papers.append(("best", given, top, ways))
    return papers


def papers_of(room, book):
    papers = pair_papers(room, book) + best_papers(room, book)
    papers.append(ring_or_worths(room, book))
    word, boxes = order(room, book)
    if word == "order":
        papers.append((word, boxes))
    for at in range(len(book)):
        less = book[:at] + book[at + 1:]
        for one, other in itertools.product(all_standings(room), repeat=2):
            is_better, is_not = told(room, book, one, other), told(room, less, one, other)
            if (is_better[0], is_not[0]) == ("better", "not"):
                papers.append(("needed", at, one, other, is_better[1], is_not[1]))
    return papers


def books(room):
    return some_books(room, 5, 3, 90) + some_books(room, 4, 9, 91) + settled_books(room, 3, 92)


def are_against(room, paper, second):
    """Point 26, kind by kind."""
    for here, there in ((paper, second), (second, paper)):
        if here[0] == "better" and there[0] == "not" and (here[1], here[2]) == (there[1], there[2]):
            return True
        if here[0] == "ring" and there[0] == "worths":
            return True
        if here[0] == "better" and there[0] == "worths":
            worth = dict(zip(all_standings(room), there[1]))
            if worth[here[2]] <= worth[here[1]]:
                return True
        if here[0] == there[0] == "best" and here[1] == there[1] and here[2] != there[2]:
            return True
    return False


class Against(unittest.TestCase):
    def check(self, wanted, room, paper, second):
        check_truth(self, wanted, against, room, paper, second)
        check_truth(self, wanted, against, room, second, paper)

    def test_better_and_not(self):
        self.check(True, (2,), BETTER, NOT)
        self.check(False, (2,), BETTER, ("not", (1,), (0,), [(1,)]))
        self.check(False, (2,), BETTER, ("not", (0,), (0,), [(0,)]))
        self.check(False, (2,), BETTER, ("not", (1,), (1,), [(1,)]))
        self.check(True, (2,), ("better", (0,), (0,), [(0,), (1,), (0,)]), ("not", (0,), (0,), [(0,), (1,)]))
        self.check(True, (3,), ("better", (0,), (2,), [(0,), (1,), (2,)]), ("not", (0,), (2,), [(0,), (1,), (2,)]))

    def test_ring_and_worths(self):
        self.check(True, (2,), RING, WORTHS)
        self.check(True, (2,), RING, ("worths", (5, -5)))

    def test_better_and_worths(self):
        # Worths that are alike are no greater; those that are just greater are.
        self.check(True, (2,), BETTER, ("worths", (0, 0)))
        self.check(True, (2,), BETTER, ("worths", (1, 0)))
        self.check(True, (2,), BETTER, ("worths", (-1, -2)))
        self.check(False, (2,), BETTER, ("worths", (0, 1)))
        self.check(False, (2,), BETTER, ("worths", (-1, 0)))
        self.check(False, (2,), BETTER, ("worths", (10 ** 29, 10 ** 29 + 1)))
        self.check(True, (2,), BETTER, ("worths", (10 ** 29, 10 ** 29)))
        self.check(True, (2,), ("better", (0,), (0,), [(0,), (1,), (0,)]), WORTHS)

    def test_by_the_numbers_of_the_standings(self):
        paper = ("better", (0, 2), (1, 2), [(0, 2), (1, 2)])
        self.check(False, (2, 3), paper, ("worths", (9, 9, 3, 9, 9, 4)))
        self.check(True, (2, 3), paper, ("worths", (0, 0, 4, 9, 9, 4)))
        paper = ("better", (1, 0), (0, 1), [(1, 0), (1, 1), (0, 1)])
        self.check(False, (2, 2), paper, ("worths", (5, 3, 2, 0)))
        self.check(True, (2, 2), paper, ("worths", (0, 3, 3, 0)))

    def test_two_of_best(self):
        self.check(True, (2,), BEST, OTHER_BEST)
        self.check(False, (2,), BEST, BEST)
        self.check(False, (2,), BEST, ("best", ((0, 0),), (0,), []))
        self.check(False, (2,), ("best", ((0, 1),), (1,), []), ("best", ((0, 0),), (0,), []))
        longer = ("best", (), (2,), [[(0,), (2,)], [(1,), (2,)]])
        self.check(False, (3,), longer, ("best", (), (2,), [[(0,), (1,), (2,)], [(1,), (2,)]]))

    def test_no_others_are(self):
        alone = [BETTER, NOT, ORDER, NEEDED, BEST, RING]
        for paper, second in itertools.combinations(alone, 2):
            wanted = {paper[0], second[0]} == {"better", "not"}
            self.check(wanted, (2,), paper, second)
        for paper in [WORTHS, NOT, ORDER, NEEDED, BEST]:
            self.check(False, (2,), WORTHS, paper)
        for paper in alone + [WORTHS]:
            self.check(False, (2,), paper, paper)
        # What is needed says more than better does, yet point 26 doesn't name it.
        self.check(False, (2,), NEEDED, NOT)
        self.check(False, (2,), NEEDED, ("worths", (0, 0)))

    def test_two_that_are_let_by_for_one_book_never_are(self):
        words = {}
        for room in ROOMS:
            for book in books(room):
                papers = papers_of(room, book)
                for paper in papers:
                    self.assertIs(lets(room, book, paper), True, (room, book, paper))
                    words[paper[0]] = words.get(paper[0], 0) + 1
                for paper, second in itertools.product(papers[::2], papers):
                    self.assertIs(against(room, paper, second), False)
        self.assertEqual(sorted(words), ["best", "better", "needed", "not", "order", "ring", "worths"])
        self.assertGreater(min(words.values()), 3)

    def test_against_the_definition(self):
        found = {}
        for room in ROOMS:
            some = books(room)
            for book, second in zip(some, some[1:]):
                here, there = papers_of(room, book), papers_of(room, second)
                for paper, other in itertools.product(here[::3], there[::2]):
                    wanted = are_against(room, paper, other)
                    self.check(wanted, room, paper, other)
                    if wanted:
                        words = tuple(sorted((paper[0], other[0])))
                        found[words] = found.get(words, 0) + 1
        self.assertEqual(sorted(found), [("best", "best"), ("better", "not"), ("better", "worths"), ("ring", "worths")])

    def test_great_rooms(self):
        for room in ((2,) * 8, (4, 4, 4, 4)):
            row = snake(room)
            there, back = row_book(row), row_book(row[::-1])
            paper = ("better", row[0], row[-1], row)
            self.assertIs(lets(room, there, paper), True)
            self.check(False, room, paper, ring_or_worths(room, there))
            self.check(True, room, paper, ring_or_worths(room, back))
            self.check(True, room, paper, ("not", row[0], row[-1], [row[0]]))


if __name__ == "__main__":
    unittest.main()
