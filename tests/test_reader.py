"""What is read back for a room, and what is refused."""

import unittest

from allelse.errors import NoText
from allelse.reader import read_book, read_standing, read_standings, read_wish
from allelse.texts import show_book, show_standing, show_standings, show_wish
from support import (
    all_standings, all_wishes, check_told, full_given, odd_things, refusal, rising, row_book, settled_books, snake,
    some_books,
)

ROOMS = ((2,), (4,), (2, 2), (3, 2), (2, 4), (2, 2, 2))
GREAT_ROOMS = ((2,) * 8, (4, 4, 4, 4), (4, 2, 4, 2, 2, 2))
READERS = (read_standing, read_wish, read_book, read_standings)
SIGNS = " \n0123489-,:=>+._aO\t~"


def is_text(thing):
    return type(thing) is str


def near_by(text):
    """Texts with one sign more, less or other, or two of them changed about."""
    told = []
    for at in range(len(text) + 1):
        told += [text[:at] + sign + text[at:] for sign in SIGNS]
        told += [text[:at] + sign + text[at + 1:] for sign in SIGNS]
        told.append(text[:at] + text[at + 1:])
        told.append(text[:at] + text[at + 1:at + 2] + text[at:at + 1] + text[at + 2:])
    return told + [text + text, text + " " + text, text + "\n" + text, text + "," + text, text[::-1], text.upper()]


def written_wishes(room):
    """Each wish of the room by its text, written here."""
    told = {}
    for wish in all_wishes(room):
        given = ",".join("=".join(map(str, part)) for part in wish[0]) or "-"
        told[given + " " + str(wish[1]) + ":" + str(wish[2]) + ">" + str(wish[3])] = wish
    return told


def written_standings(room):
    return {"".join(map(str, standing)): standing for standing in all_standings(room)}


class Case(unittest.TestCase):
    def refused(self, read, room, text):
        self.assertIs(type(refusal(self, read, room, text)), NoText, text)

    def check(self, read, room, text, wanted):
        """The text is read as what is wanted, or refused where that is None."""
        if wanted is None:
            self.refused(read, room, text)
        else:
            self.assertEqual(repr(check_told(self, read, room, text)), repr(wanted))


class ReadStanding(Case):
    def test_written_out(self):
        self.assertEqual(read_standing((2, 2, 3, 2), "0120"), (0, 1, 2, 0))
        self.assertEqual(read_standing((4,), "3"), (3,))
        for text in ("", "0", "000", "02", "30", "0 0", " 00", "00 ", "00\n", "\n00",
                     "-1", "0a", "+0", "0-", "-", "oo"):
            self.refused(read_standing, (2, 2), text)

    def test_what_is_written_is_read_back(self):
        for room in ROOMS + GREAT_ROOMS:
            for standing in all_standings(room):
                self.assertEqual(read_standing(room, show_standing(standing)), standing)

    def test_any_other_text(self):
        for room in ROOMS:
            right = written_standings(room)
            for text in [other for text in right for other in near_by(text)]:
                self.check(read_standing, room, text, right.get(text))


class ReadWish(Case):
    def test_written_out(self):
        self.assertEqual(read_wish((2, 2, 2, 2), "0=1,3=0 2:1>0"), (((0, 1), (3, 0)), 2, 1, 0))
        self.assertEqual(read_wish((2,), "- 0:1>0"), ((), 0, 1, 0))
        for text in (
            "", "-", "- ", " 0:1>0", "0:1>0", "-  0:1>0", " - 0:1>0", "- 0:1>0 ", "- 0:1>0\n", "\n- 0:1>0", "-\n0:1>0",
            "- 0:1<0", "- 0=1>0", "- 0:10", "- 00:1>0", "- 0:01>0", "- 0:1>00",
            "- 0:0>0", "- 1:1>1", "- 0:2>0", "- 2:1>0",
            "- 8:1>0", "-- 0:1>0", "-,1=0 0:1>0", "1=0, 0:1>0", ",1=0 0:1>0", "1=0,,2=0 0:1>0", "1=0,-", "0=0 0:1>0",
            "1=2 0:1>0", "1:0 0:1>0", "1=0,1=0 0:1>0", "1=0,1=1 0:1>0", "- 0:1>0 - 0:1>0", "- 0:1>-", "- -1:1>0",
        ):
            self.refused(read_wish, (2, 2), text)

    def test_a_givens_boxes_rise(self):
        self.assertEqual(read_wish((2, 2, 2), "0=1,1=0 2:1>0"), (((0, 1), (1, 0)), 2, 1, 0))
        self.refused(read_wish, (2, 2, 2), "1=0,0=1 2:1>0")
        self.refused(read_wish, (2, 2, 2), "0=0,0=1 2:1>0")

    def test_numbers_of_two_figures(self):
        room = (2,) * 8
        for text in ("10=0 0:1>0", "- 10:1>0", "- 0:10>0", "01=0 0:1>0", "1=00 0:1>0", "1=01 0:1>0", "- 0:1>00"):
            self.refused(read_wish, room, text)
            self.refused(read_wish, (2,) * 11, text)

    def test_what_is_written_is_read_back(self):
        for room in ROOMS:
            for wish in all_wishes(room):
                self.assertEqual(read_wish(room, show_wish(wish)), wish)
        for room in GREAT_ROOMS:
            for standing in all_standings(room)[::13]:
                for box in range(len(room)):
                    wish = (full_given(standing, box), box, (standing[box] + 1) % room[box], standing[box])
                    self.assertEqual(read_wish(room, show_wish(wish)), wish)

    def test_any_other_text(self):
        for room in ((2,), (2, 2), (3, 2), (2, 2, 2)):
            right = written_wishes(room)
            texts = list(right)[::max(1, len(right) // 12)]
            for text in [other for text in texts for other in near_by(text)]:
                self.check(read_wish, room, text, right.get(text))


class ReadBook(Case):
    def test_written_out(self):
        self.assertEqual(read_book((2, 2), ""), ())
        self.assertEqual(read_book((2, 2), "- 0:1>0"), (((), 0, 1, 0),))
        self.assertEqual(read_book((2, 2), "- 0:1>0\n0=1 1:1>0"), (((), 0, 1, 0), (((0, 1),), 1, 1, 0)))
        self.assertEqual(read_book((2, 2), "- 0:1>0\n- 0:1>0"), (((), 0, 1, 0),) * 2)
        for text in ("\n", "-", " ", "- 0:1>0\n", "\n- 0:1>0", "- 0:1>0\n\n- 0:1>0", "- 0:1>0 - 0:1>0", "- 0:1>0\n-",
                     "- 0:1>0 \n- 0:1>0", "- 0:1>0\n - 0:1>0", "- 0:1>0 ; - 0:1>0",
                     "- 0:1>0\r\n- 0:1>0", "- 0:1>0\n\n"):
            self.refused(read_book, (2, 2), text)

    def test_what_is_written_is_read_back(self):
        for room in ROOMS + GREAT_ROOMS[1:]:
            for book in some_books(room, 6, 12, 160) + settled_books(room, 2, 161):
                self.assertEqual(check_told(self, read_book, room, show_book(book)), book)

    def test_however_long_a_told_text_is(self):
        for room in GREAT_ROOMS:
            book = (row_book(snake(room)) * 3)[:600]
            text = show_book(book)
            self.assertGreater(len(text), 6000)
            self.assertEqual(read_book(room, text), book)

    def test_six_hundred_wishes_and_one_more(self):
        row = ["- 0:1>0"] * 600
        self.assertEqual(read_book((2,), "\n".join(row)), (((), 0, 1, 0),) * 600)
        self.refused(read_book, (2,), "\n".join(row + row[:1]))

    def test_any_other_text(self):
        for room in ((2,), (2, 2)):
            right = written_wishes(room)
            texts = list(right)[:3]
            for text in near_by("\n".join(texts[:2])) + near_by(texts[-1]) + near_by(""):
                rows = text.split("\n")
                wanted = tuple(right[row] for row in rows) if all(row in right for row in rows) else None
                self.check(read_book, room, text, () if text == "" else wanted)


class ReadStandings(Case):
    def test_written_out(self):
        self.assertEqual(read_standings((2, 2), "-"), [])
        self.assertEqual(read_standings((2, 2), "01"), [(0, 1)])
        self.assertEqual(read_standings((2, 2), "01 00 01"), [(0, 1), (0, 0), (0, 1)])
        for text in ("", " ", "- ", " -", "--", "- -", "01 -", "- 01", "01 ", " 01",
                     "01  00", "01\n00", "01,00", "0100",
                     "01 0", "01 02", "01 000", "01\n", "[(0, 1)]"):
            self.refused(read_standings, (2, 2), text)

    def test_256_and_257(self):
        for room in GREAT_ROOMS:
            whole = all_standings(room)
            self.assertEqual(len(whole), 256)
            self.assertEqual(read_standings(room, show_standings(whole)), whole)
            self.refused(read_standings, room, show_standings(whole + whole[:1]))
        self.assertEqual(read_standings((2,), show_standings([(1,)] * 256)), [(1,)] * 256)
        self.refused(read_standings, (2,), show_standings([(1,)] * 257))
        self.refused(read_standings, (2,), " ".join(["0"] * 3000))

    def test_what_is_written_is_read_back(self):
        for room in ROOMS:
            for row in ([], all_standings(room), snake(room)[::-1], all_standings(room)[:1] * 3):
                self.assertEqual(check_told(self, read_standings, room, show_standings(row)), row)

    def test_any_other_text(self):
        for room in ((2,), (2, 2), (3, 2)):
            right = written_standings(room)
            for text in near_by(" ".join(list(right)[:3])) + near_by("-") + near_by(""):
                words = text.split(" ")
                wanted = [right[word] for word in words] if all(word in right for word in words) else None
                self.check(read_standings, room, text, [] if text == "-" else wanted)


class OfAnything(Case):
    def test_what_is_no_text(self):
        for room in ((2,), (2, 2)):
            for thing in odd_things() + [0, (0,), ["00"], ("0", "0"), ["-"], {"0": "0"}, ((), 0, 1, 0), rising(room)]:
                if not is_text(thing):
                    for read in READERS:
                        self.refused(read, room, thing)

    def test_what_is_a_text(self):
        for thing in filter(is_text, odd_things()):
            self.check(read_standing, (2,), thing, (0,) if thing == "0" else None)
            self.check(read_wish, (2,), thing, None)
            self.check(read_book, (2,), thing, () if thing == "" else None)
            self.check(read_standings, (2,), thing, [(0,)] if thing == "0" else None)

    def test_long_texts(self):
        for text in ("0" * 6000, " " * 6000, "\n" * 6000, "-" * 6000, "- 0:1>0" * 857, "0 " * 3000, "1=0," * 1500):
            for read in READERS:
                self.refused(read, (2, 2), text)


if __name__ == "__main__":
    unittest.main()
