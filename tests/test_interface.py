import inspect
import unittest

from seamwright import webnotes, webs

from samples import MIXED

FUNCTIONS = {
    webs: {
        "is_web": ["web"], "pieces": ["web"], "greatest": ["web"], "points": ["web"], "counts": ["web"],
        "height": ["web"], "balance": ["web"], "star": ["web", "piece"], "link": ["web", "piece"],
        "without": ["web", "piece"], "shares": ["web"], "is_same": ["one", "other"],
    },
    webnotes: {"shown": ["web"], "read": ["text"]},
}


class Interface(unittest.TestCase):
    def test_names_and_arguments(self):
        for module, functions in FUNCTIONS.items():
            for name, arguments in functions.items():
                told = list(inspect.signature(getattr(module, name)).parameters)
                self.assertEqual(told, arguments, name)

    def test_kinds(self):
        for name in ["pieces", "greatest"]:
            told = getattr(webs, name)(MIXED)
            self.assertEqual({list}, {told.__class__})
            self.assertEqual({tuple}, {piece.__class__ for piece in told})
        for name in ["star", "link", "without"]:
            told = getattr(webs, name)(MIXED, (3,))
            self.assertEqual({list}, {told.__class__})
            self.assertEqual({tuple}, {piece.__class__ for piece in told})
        for name in ["points", "counts"]:
            told = getattr(webs, name)(MIXED)
            self.assertEqual({list}, {told.__class__})
            self.assertEqual({int}, {number.__class__ for number in told})
        for name in ["height", "balance"]:
            self.assertEqual(int, getattr(webs, name)(MIXED).__class__)
        told = webs.shares(MIXED)
        self.assertEqual({list}, {told.__class__} | {share.__class__ for share in told})
        self.assertEqual(str, webnotes.shown(MIXED).__class__)
        self.assertEqual(list, webnotes.read("1-2").__class__)
        self.assertEqual(tuple, webnotes.read("1-2")[0].__class__)


if __name__ == "__main__":
    unittest.main()
