import unittest

from seamwright.chainnotes import read_chain, shown_chain
from seamwright.chains import is_chain, times
from seamwright.errors import NoChain, NoNote, NoWeb

from samples import EMPTY, FULL, MIXED, NO_WEBS, TWO_HUNDRED, webs_with_chains

FAR = 10 ** 30 - 1

# Of the web MIXED.
REFUSED = {
    "a nought ahead": ["01*1", "-01*1", "007*1-2", "1*01", "1*01-2", "1*1-02", "0" * 30 + "1*1", "1*1 02*2"],
    "a weight nought": ["0*1", "-0*1", "00*1", "0*1-2", "1*1 0*2", "1*1-2 0*2-3"],
    "a plus": ["+1*1", "1*+1", "+1*1-2", "1*1 +2*2", "-+1*1", "+-1*1", "1*1+2*2", "1*1-2 + 1*2-3"],
    "two dashes": ["--1*1", "1*1--2", "---1*1", "1*--1"],
    "a dash out of place": ["-*1", "1-*1", "1*-1", "1*1-", "-", "1*1-2-", "- 1*1", "1*-"],
    "a weight left out": ["*1", "*1-2", "1", "7", "1-2", "1-2-3", "1*1 *2", "1*1 2", "-1-2"],
    "a piece left out": ["1*", "-1*", "1*1-2 1*", "1* 2*2"],
    "a star left out": ["11", "1 1", "1 1-2", "1 * 1", "2-3", "*", "1 *1"],
    "a star too many": ["1**1", "1*1*", "*1*1", "1*1*1", "1*1*2", "**"],
    "two blanks": ["1*1  1*2", "1*1   1*2", "  "],
    "a blank at an end": [" ", " 1*1", "1*1 ", " 1*1-2", "1*1-2 "],
    "a blank within": ["1 *1", "1* 1", "- 1*1", "1*1 -2", "1*1- 2"],
    "a line end": ["\n", "1*1\n", "\n1*1", "1*1\n1*2", "1\n*1", "1*\n1", "1*1 \n1*2"],
    "another sign": ["x", "1*x", "x*1", "1.0*1", "1,1*1", "1_0*1", "1*1,2", "1*(1)", "2/1*1", "~*1", "1e3*1", "1;1"],
    "pieces that are not in order": ["1*2 1*1", "1*2-3 1*1-2", "1*1-3 1*1-2", "1*7 1*1 1*2", "1*8-9 1*3-4"],
    "a piece twice": ["1*1 1*1", "1*1 -1*1", "1*1-2 2*1-2", "1*1 2*2 2*2", "1*1 0*1"],
    "two heights": ["1*1 1*1-2", "1*1-2 1*7", "1*2-3 1*1-2-3", "1*7 1*8-9"],
    "a piece that the web does not have": ["1*5", "1*1-4", "1*1 1*6", "1*2-3-4", "1*99", "1*3-4 1*7-8"],
    "what is no piece": ["1*2-1", "1*1-1", "1*100", "1*1-2-3-4-5-6", "1*3-2-1", "1*1-3-2", "1*" + "9" * 30],
    "a weight of more than thirty figures": [
        "1" * 31 + "*1", "-" + "1" * 31 + "*1", "9" * 31 + "*1-2", "1*1 " + "1" * 31 + "*2", "1" * 1900 + "*1",
        "1" + "0" * 30 + "*7", "9" * 6000 + "*1", "0" * 31 + "*1",
    ],
}

NO_CHAINS = [{(1,): 0}, {(1,): 1, (1, 2): 1}, {(1, 4): 1}, {(2, 1): 1}, {(1, 1): 1}, {(): 1}]


class Shown(unittest.TestCase):
    def test_shown(self):
        self.assertEqual(shown_chain(MIXED, {}), "")
        self.assertEqual(shown_chain(EMPTY, {}), "")
        self.assertEqual(shown_chain(MIXED, {(7,): 1}), "1*7")
        self.assertEqual(shown_chain(MIXED, {(1, 2): -1}), "-1*1-2")
        self.assertEqual(shown_chain(MIXED, {(3, 4): -10, (1, 2): 20, (2, 3): 1}), "20*1-2 1*2-3 -10*3-4")
        self.assertEqual(shown_chain(FULL, {(0, 1, 50, 98, 99): 100}), "100*0-1-50-98-99")
        self.assertEqual(shown_chain(FULL, {(0,): -7, (99,): FAR}), "-7*0 " + "9" * 30 + "*99")

    def test_pieces_go_in_order_as_numbers(self):
        web = [(9,), (10,), (2, 11), (10, 11), (9, 11)]
        self.assertEqual(shown_chain(web, {(10,): 1, (2,): 3, (9,): 2}), "3*2 2*9 1*10")
        self.assertEqual(shown_chain(web, {(10, 11): 1, (9, 11): 2, (2, 11): 3}), "3*2-11 2*9-11 1*10-11")

    def test_weights_that_were_told_have_any_number_of_figures(self):
        for figures in [31, 59, 60, 61, 119, 120, 121, 4300, 4301, 6000]:
            chain = {(7,): 10 ** (figures - 1) + 305, (8,): -(10 ** (figures - 1))}
            one = "1" + "0" * (figures - 4) + "305*7"
            other = "-1" + "0" * (figures - 1) + "*8"
            self.assertEqual(shown_chain(MIXED, chain), one + " " + other)

    def test_weights_from_times(self):
        chain = {(7,): 3}
        for turn in range(200):
            chain = times(MIXED, chain, 10 ** 29)
        self.assertEqual(shown_chain(MIXED, chain), "3" + "0" * 5800 + "*7")

    def test_refused(self):
        for name, web in NO_WEBS.items():
            for chain in [{}, {web[0]: 1}, {(): 0}]:
                with self.subTest(name, chain=chain), self.assertRaises(NoWeb):
                    shown_chain(list(web), chain)
        for chain in NO_CHAINS:
            with self.subTest(chain=chain), self.assertRaises(NoChain):
                shown_chain(MIXED, chain)


class Read(unittest.TestCase):
    def test_read(self):
        self.assertEqual(read_chain(MIXED, ""), {})
        self.assertEqual(read_chain(EMPTY, ""), {})
        self.assertEqual(read_chain(MIXED, "1*7"), {(7,): 1})
        self.assertEqual(read_chain(MIXED, "-1*1-2"), {(1, 2): -1})
        self.assertEqual(read_chain(MIXED, "20*1-2 1*2-3 -10*3-4"), {(1, 2): 20, (2, 3): 1, (3, 4): -10})
        self.assertEqual(read_chain(FULL, "100*0-1-50-98-99"), {(0, 1, 50, 98, 99): 100})
        self.assertEqual(read_chain(FULL, "5*0 -6*99"), {(0,): 5, (99,): -6})

    def test_weights_of_thirty_figures(self):
        for figures in ["9" * 30, "1" + "0" * 29, "123456789012345678901234567890"]:
            self.assertEqual(read_chain(MIXED, figures + "*7"), {(7,): int(figures)})
            self.assertEqual(read_chain(MIXED, "-" + figures + "*1-2"), {(1, 2): -int(figures)})

    def test_there_and_back(self):
        for web, some in webs_with_chains():
            for chain in some:
                text = shown_chain(web, chain)
                told = read_chain(web, text)
                self.assertEqual(told, chain)
                self.assertEqual(shown_chain(web, told), text)

    def test_refused(self):
        for name, texts in REFUSED.items():
            for text in texts:
                with self.subTest(name, text=text), self.assertRaises(NoNote):
                    read_chain(MIXED, text)

    def test_what_is_written_of_thirty_one_figures_is_refused(self):
        for weight in [10 ** 30, -(10 ** 30)]:
            text = shown_chain(MIXED, {(7,): weight})
            with self.subTest(text=text), self.assertRaises(NoNote):
                read_chain(MIXED, text)

    def test_no_web_goes_ahead_of_no_note(self):
        for name, web in NO_WEBS.items():
            for text in ["", "1*1", "x", "1*1 "]:
                with self.subTest(name, text=text), self.assertRaises(NoWeb):
                    read_chain(list(web), text)

    def test_of_no_pieces(self):
        for text in ["1*0", "1*", "1", "*"]:
            with self.subTest(text=text), self.assertRaises(NoNote):
                read_chain(EMPTY, text)

    def test_a_web_of_200_pieces(self):
        chain = {(k,): -k - 1 for k in range(36)}
        text = " ".join(f"{-k - 1}*{k}" for k in range(36))
        self.assertEqual(shown_chain(TWO_HUNDRED, chain), text)
        self.assertEqual(read_chain(TWO_HUNDRED, text), chain)

    def test_each_text_of_few_signs(self):
        """Every text of up to five of these signs is either what is written of what is read, or refused."""
        web = [(0, 1)]
        texts = [""]
        for length in range(5):
            texts = texts + [text + sign for text in texts if len(text) == length for sign in "01*- \n"]
        taken = []
        for text in texts:
            try:
                told = read_chain(web, text)
            except NoNote:
                continue
            taken.append(text)
            self.assertIs(is_chain(web, told), True)
            self.assertEqual(shown_chain(web, told), text)
        # Weights of the figures 0 and 1, of so many figures as there is room for.
        weights = ["1", "10", "11", "100", "101", "110", "111"]
        on_points = weights + ["-" + weight for weight in weights if len(weight) < 3]
        right = [""] + [weight + "*" + point for weight in on_points for point in "01"]
        self.assertEqual(sorted(taken), sorted(right + ["1*0-1"]))


class OwnDicts(unittest.TestCase):
    def test_what_is_handed_in_is_the_same_behind(self):
        web = list(MIXED)
        chain = {(3, 4): 1, (1, 2): -2}
        before = repr((web, chain))
        shown_chain(web, chain)
        self.assertEqual(repr((web, chain)), before)
        read_chain(web, "1*7")
        self.assertEqual(repr((web, chain)), before)

    def test_what_was_read_may_be_changed(self):
        for text in ["", "1*7", "1*1-2 -2*3-4"]:
            told = read_chain(MIXED, text)
            other = read_chain(MIXED, text)
            before = dict(other)
            told[(60, 61)] = 1
            told[(7,)] = 5
            self.assertEqual(other, before)
            self.assertEqual(read_chain(MIXED, text), before)


if __name__ == "__main__":
    unittest.main()
