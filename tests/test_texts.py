"""What is written: standings, wishes, books, lists of standings."""

import unittest

from allelse.texts import show_book, show_standing, show_standings, show_wish
from support import all_standings, all_wishes, check_told, some_books


class Texts(unittest.TestCase):
    def test_standings(self):
        self.assertEqual(show_standing((0, 1, 2, 0)), "0120")
        self.assertEqual(show_standing((3,)), "3")
        self.assertEqual(show_standing((1,) * 8), "11111111")
        self.assertEqual([show_standing(standing) for standing in all_standings((2, 2))], ["00", "01", "10", "11"])

    def test_wishes(self):
        self.assertEqual(show_wish((((0, 1), (3, 0)), 2, 1, 0)), "0=1,3=0 2:1>0")
        self.assertEqual(show_wish(((), 0, 1, 0)), "- 0:1>0")
        self.assertEqual(show_wish((((7, 3),), 0, 2, 3)), "7=3 0:2>3")
        whole = tuple((box, box % 2) for box in range(7))
        self.assertEqual(show_wish((whole, 7, 0, 1)), "0=0,1=1,2=0,3=1,4=0,5=1,6=0 7:0>1")

    def test_books(self):
        self.assertEqual(show_book(()), "")
        self.assertEqual(show_book((((), 0, 1, 0),)), "- 0:1>0")
        self.assertEqual(show_book((((), 0, 1, 0), (((0, 1),), 1, 1, 0))), "- 0:1>0\n0=1 1:1>0")
        self.assertEqual(show_book((((), 0, 1, 0),) * 600), "\n".join(["- 0:1>0"] * 600))

    def test_lists_of_standings(self):
        self.assertEqual(show_standings([]), "-")
        self.assertEqual(show_standings([(0, 1)]), "01")
        self.assertEqual(show_standings([(0, 0), (1, 0), (1, 1), (0, 0)]), "00 10 11 00")
        self.assertEqual(show_standings([(2,)] * 257), " ".join(["2"] * 257))

    def test_two_that_are_unlike_are_written_unlike(self):
        for room in ((2,), (4,), (2, 3), (2, 2, 2)):
            wishes = all_wishes(room)
            self.assertEqual(len({show_wish(wish) for wish in wishes}), len(wishes))
            self.assertEqual(len({show_standing(one) for one in all_standings(room)}), len(all_standings(room)))

    def test_told_texts(self):
        for standing in all_standings((2, 3)):
            self.assertIs(type(check_told(self, show_standing, standing)), str)
        for book in some_books((2, 3), 10, 10, 150):
            self.assertIs(type(check_told(self, show_book, book)), str)
            for wish in book:
                self.assertIs(type(check_told(self, show_wish, wish)), str)
        self.assertIs(type(check_told(self, show_standings, all_standings((2, 3)))), str)


if __name__ == "__main__":
    unittest.main()
