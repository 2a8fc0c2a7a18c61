import inspect
import unittest

from seamwright import (
    bars, bounding, building, chainnotes, chains, growing, holes, maps, pairing, prisms, pushing, solving, steps, tables,
    webnotes, webs,
)

from samples import BOTTLE, HOLLOW, MIXED, PLANE, STRETCH, TRIANGLE

FUNCTIONS = {
    webs: {
        "is_web": ["web"], "pieces": ["web"], "greatest": ["web"], "points": ["web"], "counts": ["web"],
        "height": ["web"], "balance": ["web"], "star": ["web", "piece"], "link": ["web", "piece"],
        "without": ["web", "piece"], "shares": ["web"], "is_same": ["one", "other"],
    },
    webnotes: {"shown": ["web"], "read": ["text"]},
    chains: {
        "is_chain": ["web", "chain"], "plus": ["web", "one", "other"], "times": ["web", "chain", "often"],
        "seam": ["web", "chain"], "is_closed": ["web", "chain"], "weighed": ["web", "weights", "chain"],
        "around": ["web", "piece"],
    },
    chainnotes: {"shown_chain": ["web", "chain"], "read_chain": ["web", "text"]},
    tables: {"is_table": ["table"], "product": ["one", "other"], "turned_over": ["table"]},
    steps: {
        "stepped": ["table"], "is_stepped": ["table", "paper"], "steps_of": ["table"], "rank": ["table"],
        "rank_by": ["table", "prime"],
    },
    solving: {
        "solved": ["table", "goal"], "shows_none": ["table", "goal", "weights", "number"],
        "brought": ["table", "numbers"], "leaves": ["table"],
    },
    holes: {"holes": ["web", "height"], "rounds": ["web", "height"], "told_by": ["web", "height", "chain"]},
    bounding: {
        "bounds": ["web", "chain"], "shows": ["web", "chain", "weights", "number"],
        "is_alike": ["web", "one", "other"],
    },
    pushing: {
        "free_pairs": ["web"], "pushed": ["web", "piece"], "pushes": ["web"], "is_pushed": ["web", "pairs", "other"],
    },
    pairing: {
        "judged": ["web", "pairs"], "pairing": ["web"], "left_over": ["web", "pairs"],
        "thin_seams": ["web", "pairs"],
    },
    maps: {
        "is_map": ["web", "other", "names"], "image": ["web", "other", "names"],
        "carried": ["web", "other", "names", "chain"], "behind": ["web", "middle", "last", "one", "other"],
        "on_holes": ["web", "other", "names", "height"],
    },
    prisms: {"beside": ["web", "other", "one", "two"], "prism": ["web", "other", "one", "two", "chain"]},
    growing: {
        "is_order": ["order"], "order_by": ["web", "worths"], "worths_by_points": ["web", "ages"],
        "web_at": ["order", "time"],
    },
    bars: {
        "bars": ["order", "prime"], "paper": ["order", "prime"], "is_paper": ["order", "prime", "paper"],
        "alive": ["order", "prime", "high", "time"], "lasting": ["order", "prime", "high", "early", "late"],
        "bars_by": ["web", "worths", "prime"],
    },
    building: {
        "both": ["one", "other"], "shared": ["one", "other"], "joined": ["one", "other"], "cone": ["web", "point"],
    },
}


def kinds(value):
    """A value's kind with those of all that it holds, told by their names."""
    name = value.__class__.__name__
    if isinstance(value, dict):
        return (name, [kinds(piece) for piece in value], [kinds(weight) for weight in value.values()])
    if isinstance(value, (list, tuple)):
        return (name, [kinds(inner) for inner in value])
    return name


class Interface(unittest.TestCase):
    def test_names_and_arguments(self):
        for module, functions in FUNCTIONS.items():
            for name, arguments in functions.items():
                told = list(inspect.signature(getattr(module, name)).parameters)
                self.assertEqual(told, arguments, name)

    def test_kinds_of_webs(self):
        for name in ["pieces", "greatest"]:
            told = getattr(webs, name)(MIXED)
            self.assertEqual({list}, {told.__class__})
            self.assertEqual({tuple}, {piece.__class__ for piece in told})
        for name in ["star", "link", "without"]:
            told = getattr(webs, name)(MIXED, (3,))
            self.assertEqual({list}, {told.__class__})
            self.assertEqual({tuple}, {piece.__class__ for piece in told})
        for name in ["points", "counts"]:
            told = getattr(webs, name)(MIXED)
            self.assertEqual({list}, {told.__class__})
            self.assertEqual({int}, {number.__class__ for number in told})
        for name in ["height", "balance"]:
            self.assertEqual(int, getattr(webs, name)(MIXED).__class__)
        told = webs.shares(MIXED)
        self.assertEqual({list}, {told.__class__} | {share.__class__ for share in told})
        self.assertEqual(str, webnotes.shown(MIXED).__class__)
        self.assertEqual(list, webnotes.read("1-2").__class__)
        self.assertEqual(tuple, webnotes.read("1-2")[0].__class__)

    def test_kinds_of_chains(self):
        chain = {(1, 2): 3, (2, 3): -4}
        some = [
            chains.plus(MIXED, chain, chain), chains.times(MIXED, chain, 5), chains.seam(MIXED, chain),
            chains.around(MIXED, (3,)), chainnotes.read_chain(MIXED, "3*1-2 -4*2-3"),
        ]
        for told in some:
            self.assertEqual(dict, told.__class__)
            self.assertEqual({tuple}, {piece.__class__ for piece in told})
            self.assertEqual({int}, {weight.__class__ for weight in told.values()})
        for told in [chains.is_chain(MIXED, chain), chains.is_closed(MIXED, chain)]:
            self.assertEqual(bool, told.__class__)
        self.assertEqual(int, chains.weighed(MIXED, chain, chain).__class__)
        self.assertEqual(str, chainnotes.shown_chain(MIXED, chain).__class__)

    def test_kinds_of_tables(self):
        table = [[1, 2], [3, 4]]
        for told in [tables.product(table, table), tables.turned_over(table)]:
            self.assertEqual({list}, {told.__class__} | {row.__class__ for row in told})
            self.assertEqual({int}, {number.__class__ for row in told for number in row})
        self.assertEqual(bool, tables.is_table(table).__class__)

    def test_kinds_of_steps(self):
        table = [[2, 0], [0, 0]]
        square = ("list", [("list", ["int", "int"]), ("list", ["int", "int"])])
        paper = steps.stepped(table)
        self.assertEqual(kinds(paper), ("tuple", [square, square, square, square, ("list", ["int"])]))
        self.assertEqual(kinds(steps.steps_of(table)), ("list", ["int"]))
        self.assertEqual(kinds(steps.is_stepped(table, paper)), "bool")
        self.assertEqual([kinds(steps.rank(table)), kinds(steps.rank_by(table, 2))], ["int", "int"])

    def test_kinds_of_solving(self):
        table = [[2, 0], [0, 0]]
        row = ("list", ["int", "int"])
        self.assertEqual(kinds(solving.solved(table, [2, 0])), ("tuple", ["str", row]))
        self.assertEqual(kinds(solving.solved(table, [1, 1])), ("tuple", ["str", row, "int"]))
        self.assertEqual(kinds(solving.shows_none(table, [1, 0], [1, 0], 2)), "bool")
        self.assertEqual(kinds(solving.brought(table, [1, 0])), row)
        self.assertEqual(kinds(solving.leaves(table)), ("list", [row]))

    def test_kinds_of_holes(self):
        self.assertEqual(kinds(holes.holes(BOTTLE, 1)), ("tuple", ["int", ("list", ["int"])]))
        free, twisted = holes.rounds(BOTTLE, 1)
        for chain in [free[0], twisted[0][0], twisted[0][2], holes.told_by(BOTTLE, 1, free[0])[2]]:
            told = kinds(chain)
            self.assertEqual(told[0], "dict")
            self.assertLessEqual(set(told[2]), {"int"})
            self.assertLessEqual({piece[0] for piece in told[1]}, {"tuple"})
        told = kinds((free, [row[1] for row in twisted], twisted))
        self.assertEqual([part[0] for part in told[1]], ["list", "list", "list"])
        self.assertEqual(kinds(holes.told_by(BOTTLE, 1, {})), (
            "tuple", [("list", ["int"]), ("list", ["int"]), ("dict", [], [])],
        ))

    def test_kinds_of_bounding(self):
        ring = {(1, 2): 1, (2, 3): 1, (1, 3): -1}
        piece = ("tuple", ["int", "int"])
        told = kinds(bounding.bounds(TRIANGLE, ring))
        self.assertEqual(told, ("tuple", ["str", ("dict", [("tuple", ["int", "int", "int"])], ["int"])]))
        told = kinds(bounding.bounds(HOLLOW, ring))
        self.assertEqual((told[0], told[1][0], told[1][2]), ("tuple", "str", "int"))
        self.assertEqual((told[1][1][0], told[1][1][1][0]), ("dict", piece))
        self.assertEqual(kinds(bounding.shows(HOLLOW, ring, {(1, 2): 1}, 0)), "bool")
        self.assertEqual(kinds(bounding.is_alike(HOLLOW, ring, ring)), "bool")

    def test_kinds_of_pushing(self):
        point = ("tuple", ["int"])
        pair = ("tuple", [point, ("tuple", ["int", "int"])])
        self.assertEqual(kinds(pushing.free_pairs(STRETCH)), ("list", [pair, pair]))
        self.assertEqual(kinds(pushing.pushed(STRETCH, (3,))), ("list", [point]))
        told = pushing.pushes(STRETCH)
        self.assertEqual(kinds(told), ("tuple", [("list", [pair]), ("list", [point])]))
        self.assertEqual(kinds(pushing.is_pushed(STRETCH, told[0], told[1])), "bool")

    def test_kinds_of_pairing(self):
        point = ("tuple", ["int"])
        pair = ("tuple", [point, ("tuple", ["int", "int"])])
        row = [((1,), (1, 2)), ((2,), (2, 3)), ((3,), (1, 3))]
        self.assertEqual(kinds(pairing.judged(HOLLOW, [])), ("tuple", ["str"]))
        self.assertEqual(kinds(pairing.judged(HOLLOW, row[:1] * 2)), ("tuple", ["str", "int"]))
        self.assertEqual(kinds(pairing.judged(HOLLOW, row)), ("tuple", ["str", ("list", [pair, pair, pair])]))
        self.assertEqual(kinds(pairing.pairing(STRETCH)), ("list", [pair]))
        told = kinds(pairing.left_over(STRETCH, []))
        self.assertEqual(told, ("list", [point, point, ("tuple", ["int", "int"])]))
        told = kinds(pairing.thin_seams(STRETCH, []))
        chain = ("dict", [point, point], ["int", "int"])
        self.assertEqual(told[1][0], ("tuple", [point, ("dict", [], [])]))
        self.assertEqual((told[0], told[1][2]), ("list", ("tuple", [("tuple", ["int", "int"]), chain])))

    def test_kinds_of_maps(self):
        names = {1: 1, 2: 2, 3: 3}
        self.assertEqual(kinds(maps.is_map(HOLLOW, TRIANGLE, names)), "bool")
        self.assertEqual(kinds(maps.image(HOLLOW, TRIANGLE, names)), ("list", [("tuple", ["int", "int"])] * 3))
        told = kinds(maps.carried(HOLLOW, TRIANGLE, names, {(1, 2): 1}))
        self.assertEqual(told, ("dict", [("tuple", ["int", "int"])], ["int"]))
        told = kinds(maps.behind(HOLLOW, HOLLOW, TRIANGLE, names, names))
        self.assertEqual(told, ("dict", ["int"] * 3, ["int"] * 3))
        told = kinds(maps.on_holes(PLANE, PLANE, {k: k for k in range(6)}, 1))
        self.assertEqual(told, ("list", [("tuple", [("list", []), ("list", ["int"])])]))

    def test_kinds_of_prisms(self):
        names = [{1: 1, 2: 2, 3: 3}, {1: 2, 2: 3, 3: 3}]
        self.assertEqual(kinds(prisms.beside(HOLLOW, TRIANGLE, *names)), "bool")
        told = kinds(prisms.prism(HOLLOW, TRIANGLE, *names, {(1,): 1}))
        self.assertEqual(told, ("dict", [("tuple", ["int", "int"])], ["int"]))

    def test_kinds_of_growing(self):
        point = ("tuple", ["int"])
        pair = ("tuple", ["int", "int"])
        worths = growing.worths_by_points(STRETCH, {3: 1, 7: 0})
        self.assertEqual(kinds(worths), ("dict", [point, point, pair], ["int"] * 3))
        order = growing.order_by(STRETCH, worths)
        self.assertEqual(kinds(order), ("list", [point, point, pair]))
        self.assertEqual(kinds(growing.is_order(order)), "bool")
        self.assertEqual(kinds(growing.web_at(order, 1)), ("list", [point, point]))

    def test_kinds_of_bars(self):
        order = [(7,), (3,), (3, 7)]
        point = ("tuple", ["int"])
        ends = [("dict", [point, point], ["int", "int"]), ("dict", [("tuple", ["int", "int"])], ["int"])]
        rows = bars.paper(order, 3)
        self.assertEqual(kinds(rows), ("list", [
            ("tuple", ["int", "int", "NoneType", ("dict", [point], ["int"]), "NoneType"]),
            ("tuple", ["int", "int", "int"] + ends),
        ]))
        told = ("list", [("tuple", ["int", "int", "NoneType"]), ("tuple", ["int", "int", "int"])])
        self.assertEqual(kinds(bars.bars(order, 3)), told)
        self.assertEqual(kinds(bars.bars_by(STRETCH, {(3,): 1, (7,): 0, (3, 7): 2}, 3)), told)
        self.assertEqual(kinds(bars.is_paper(order, 3, rows)), "bool")
        self.assertEqual([kinds(bars.alive(order, 3, 0, 1)), kinds(bars.lasting(order, 3, 0, 1, 2))], ["int", "int"])

    def test_kinds_of_building(self):
        pair = ("tuple", ["int", "int"])
        self.assertEqual(kinds(building.both([(1, 2)], [(2, 3)])), ("list", [pair, pair]))
        self.assertEqual(kinds(building.shared(HOLLOW, TRIANGLE)), ("list", [pair, pair, pair]))
        self.assertEqual(kinds(building.joined([(1,)], [(2,), (3,)])), ("list", [pair, pair]))
        self.assertEqual(kinds(building.cone([(1,)], 2)), ("list", [pair]))


if __name__ == "__main__":
    unittest.main()
