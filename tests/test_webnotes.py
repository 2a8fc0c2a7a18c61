import unittest

from seamwright.errors import NoNote, NoWeb
from seamwright.webnotes import read, shown
from seamwright.webs import greatest, is_same

from samples import EMPTY, FULL, MIXED, NO_WEBS, TWENTY_POINTS, TWO_HUNDRED, all_webs

REFUSED = {
    "a nought ahead": ["01", "00", "1-02", "01-2", "007", "1 02"],
    "two blanks": ["1  2", "1  2-3"],
    "a blank at an end": [" ", " 1", "1 ", "1-2 ", " 1-2", "  "],
    "a line end": ["\n", "1\n", "\n1", "1\n2", "1-\n2", "1 \n2"],
    "a sign put in": ["+1", "-1", "1-", "1--2", "1-2-", "-", "1,2", "1.", "(1)", "1_0", "x", "1 x", "1-x", "1*2", "~"],
    "a sign left out": ["1-2-", "1- 2", "1 -2", "-2", "1-2 -3"],
    "pieces not in order": ["2 1", "1-2 0", "10 9", "3-4 1-2", "1-2-3 4-5", "1-10 1-9"],
    "a piece twice": ["1 1", "1-2 1-2", "1-2-3 4-5-6 4-5-6"],
    "a part of another piece": ["1 1-2", "1 2 1-2", "1-3 1-2-3", "5 1-2 1-2-3", "2 1-2-3-4-5"],
    "points falling": ["2-1", "1-3-2", "10-9"],
    "points alike": ["1-1", "1-2-2"],
    "point 100": ["100", "99-100", "0 100", "1000", "1" * 30, "9" * 1999],
    "six points": ["1-2-3-4-5-6"],
    "more than 20 pieces": [" ".join(str(k) for k in range(21)), " ".join(str(k) for k in range(100))],
    "more than 200 pieces": [shown([(36,)]) + " " + shown(TWO_HUNDRED)],
}


class Shown(unittest.TestCase):
    def test_shown(self):
        self.assertEqual(shown(EMPTY), "")
        self.assertEqual(shown([(0,)]), "0")
        self.assertEqual(shown(FULL), "0-1-50-98-99")
        self.assertEqual(shown(MIXED), "7 3-4 8-9 1-2-3")
        self.assertEqual(shown([(10, 11), (9, 11)]), "9-11 10-11")

    def test_no_web(self):
        for name, web in NO_WEBS.items():
            with self.subTest(name), self.assertRaises(NoWeb):
                shown(list(web))


class Read(unittest.TestCase):
    def test_read(self):
        self.assertEqual(read(""), [])
        self.assertEqual(read("0"), [(0,)])
        self.assertEqual(read("99"), [(99,)])
        self.assertEqual(read("0-1-50-98-99"), [(0, 1, 50, 98, 99)])
        self.assertEqual(read("7 3-4 8-9 1-2-3"), [(7,), (3, 4), (8, 9), (1, 2, 3)])
        self.assertEqual(read(" ".join(str(k) for k in range(20))), TWENTY_POINTS)

    def test_there_and_back(self):
        for web in all_webs():
            told = read(shown(web))
            self.assertEqual(told, greatest(web))
            self.assertTrue(is_same(told, web))
            self.assertEqual(shown(told), shown(web))

    def test_refused(self):
        for name, texts in REFUSED.items():
            for text in texts:
                with self.subTest(name, text=text), self.assertRaises(NoNote):
                    read(text)

    def test_each_text_of_few_signs(self):
        """Every text of up to four of these signs is either what is written of what is read, or refused."""
        texts = [""]
        for length in range(4):
            texts = texts + [text + sign for text in texts if len(text) == length for sign in "012- \n"]
        taken = 0
        for text in texts:
            try:
                told = read(text)
            except NoNote:
                continue
            taken += 1
            self.assertEqual(shown(told), text)
            self.assertEqual(greatest(told), told)
        # No pieces; one of the points 0 1 2 and 10 11 12 20 21 22; two of them, of which at most
        # one has two figures, with a blank or a `-` between.
        self.assertEqual(taken, 1 + (3 + 6) + 2 * (3 + 3 * 6))


class OwnLists(unittest.TestCase):
    def test_handed_lists_are_the_same_behind(self):
        handed = list(MIXED)
        shown(handed)
        self.assertEqual(handed, MIXED)

    def test_what_was_read_may_be_changed(self):
        for text in ["", "7 3-4"]:
            told = read(text)
            other = read(text)
            before = list(other)
            told.append((60, 61))
            self.assertEqual(other, before)
            self.assertEqual(read(text), before)


if __name__ == "__main__":
    unittest.main()
