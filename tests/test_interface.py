import inspect
import unittest

from seamwright import chainnotes, chains, tables, webnotes, webs

from samples import MIXED

FUNCTIONS = {
    webs: {
        "is_web": ["web"], "pieces": ["web"], "greatest": ["web"], "points": ["web"], "counts": ["web"],
        "height": ["web"], "balance": ["web"], "star": ["web", "piece"], "link": ["web", "piece"],
        "without": ["web", "piece"], "shares": ["web"], "is_same": ["one", "other"],
    },
    webnotes: {"shown": ["web"], "read": ["text"]},
    chains: {
        "is_chain": ["web", "chain"], "plus": ["web", "one", "other"], "times": ["web", "chain", "often"],
        "seam": ["web", "chain"], "is_closed": ["web", "chain"], "weighed": ["web", "weights", "chain"],
        "around": ["web", "piece"],
    },
    chainnotes: {"shown_chain": ["web", "chain"], "read_chain": ["web", "text"]},
    tables: {"is_table": ["table"], "product": ["one", "other"], "turned_over": ["table"]},
}


class Interface(unittest.TestCase):
    def test_names_and_arguments(self):
        for module, functions in FUNCTIONS.items():
            for name, arguments in functions.items():
                told = list(inspect.signature(getattr(module, name)).parameters)
                self.assertEqual(told, arguments, name)

    def test_kinds_of_webs(self):
        for name in ["pieces", "greatest"]:
            told = getattr(webs, name)(MIXED)
            self.assertEqual({list}, {told.__class__})
            self.assertEqual({tuple}, {piece.__class__ for piece in told})
        for name in ["star", "link", "without"]:
            told = getattr(webs, name)(MIXED, (3,))
            self.assertEqual({list}, {told.__class__})
            self.assertEqual({tuple}, {piece.__class__ for piece in told})
        for name in ["points", "counts"]:
            told = getattr(webs, name)(MIXED)
            self.assertEqual({list}, {told.__class__})
            self.assertEqual({int}, {number.__class__ for number in told})
        for name in ["height", "balance"]:
            self.assertEqual(int, getattr(webs, name)(MIXED).__class__)
        told = webs.shares(MIXED)
        self.assertEqual({list}, {told.__class__} | {share.__class__ for share in told})
        self.assertEqual(str, webnotes.shown(MIXED).__class__)
        self.assertEqual(list, webnotes.read("1-2").__class__)
        self.assertEqual(tuple, webnotes.read("1-2")[0].__class__)

    def test_kinds_of_chains(self):
        chain = {(1, 2): 3, (2, 3): -4}
        some = [
            chains.plus(MIXED, chain, chain), chains.times(MIXED, chain, 5), chains.seam(MIXED, chain),
            chains.around(MIXED, (3,)), chainnotes.read_chain(MIXED, "3*1-2 -4*2-3"),
        ]
        for told in some:
            self.assertEqual(dict, told.__class__)
            self.assertEqual({tuple}, {piece.__class__ for piece in told})
            self.assertEqual({int}, {weight.__class__ for weight in told.values()})
        for told in [chains.is_chain(MIXED, chain), chains.is_closed(MIXED, chain)]:
            self.assertEqual(bool, told.__class__)
        self.assertEqual(int, chains.weighed(MIXED, chain, chain).__class__)
        self.assertEqual(str, chainnotes.shown_chain(MIXED, chain).__class__)

    def test_kinds_of_tables(self):
        table = [[1, 2], [3, 4]]
        for told in [tables.product(table, table), tables.turned_over(table)]:
            self.assertEqual({list}, {told.__class__} | {row.__class__ for row in told})
            self.assertEqual({int}, {number.__class__ for row in told for number in row})
        self.assertEqual(bool, tables.is_table(table).__class__)


if __name__ == "__main__":
    unittest.main()
