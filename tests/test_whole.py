"""What the document promises over the whole program: of each function of the interface."""

import unittest
from copy import deepcopy

from seamwright.errors import SeamError

from map_samples import GOOD, TWICE, identity
from owned import look, look_one_by_one
from samples import (
    BOTTLE, EMPTY, HOLLOW, MIXED, NO_WEBS, PLANE, POINT, RING_OF_SIX, SPHERE, STRETCH, TORUS, TRIANGLE,
)
from test_interface import FUNCTIONS

RING = {(1, 2): 1, (2, 3): 1, (1, 3): -1}
TABLE = [[2, 4, 4], [-6, 6, 12], [10, -4, -16]]
PAPER_OF_TABLE = ([[1, 0], [0, 1]], [[1, 0], [0, 1]], [[1, 0], [0, 1]], [[1, 0], [0, 1]], [2, 4])
SOON = [(1,), (2,), (1, 2), (3,), (2, 3), (1, 3), (1, 2, 3)]
WORTHS = {(1,): 0, (2,): -1, (3,): 0, (1, 2): 2, (1, 3): 2, (2, 3): 0, (1, 2, 3): 5}
PAPER_OF_ORDER = [
    (0, 0, None, {(1,): 1}, None), (0, 1, 2, {(1,): 2, (2,): 1}, {(1, 2): 1}),
    (0, 3, 4, {(2,): 2, (3,): 1}, {(2, 3): 1}), (1, 5, 6, {(1, 2): 1, (2, 3): 1, (1, 3): 2}, {(1, 2, 3): 1}),
]
PAIRS = [((2,), (2, 3))]
TURN = {1: 2, 2: 3, 3: 1}

# Under each function what it is handed in to be answered; some handed in twice over as one.
ANSWERED = {
    "is_web": [(MIXED,), (NO_WEBS["a piece twice"],)], "pieces": [(MIXED,)], "greatest": [(MIXED,)], "points": [(MIXED,)],
    "counts": [(MIXED,)], "height": [(MIXED,)], "balance": [(MIXED,)], "star": [(MIXED, (3,))], "link": [(MIXED, (3,))],
    "without": [(MIXED, (3,))], "shares": [(MIXED,)], "is_same": [(HOLLOW, TRIANGLE)],
    "shown": [(MIXED,)], "read": [("7 3-4 1-2-3",)],
    "is_chain": [(MIXED, RING), (MIXED, {(1,): 0})], "plus": [(MIXED, RING, RING)], "times": [(MIXED, RING, -3)],
    "seam": [(MIXED, {(1, 2, 3): 2})], "is_closed": [(MIXED, RING)], "weighed": [(MIXED, RING, RING)],
    "around": [(MIXED, (3,))], "shown_chain": [(MIXED, RING)], "read_chain": [(MIXED, "5*1-2 -7*3-4")],
    "is_table": [(TABLE,), ([[1], []],)], "product": [(TABLE, TABLE)], "turned_over": [(TABLE,)],
    "stepped": [(TABLE,), ([[2, 0], [0, 4]],), ([[]],)], "is_stepped": [([[2, 0], [0, 4]], PAPER_OF_TABLE)],
    "steps_of": [(TABLE,)], "rank": [(TABLE,)], "rank_by": [(TABLE, 3)],
    "solved": [(TABLE, [2, -6, 10]), (TABLE, [1, 0, 0])], "shows_none": [(TABLE, [1, 0, 0], [1, 0, 0], 2)],
    "brought": [(TABLE, [1, 2, 3])], "leaves": [([[6, -4], [3, -2]],), ([[0, 0]],)],
    "holes": [(BOTTLE, 1), (PLANE, 1)], "rounds": [(BOTTLE, 1), (TORUS, 1), (PLANE, 1)],
    "told_by": [(BOTTLE, 1, {}), (MIXED, 1, RING), (HOLLOW, 1, RING)],
    "bounds": [(MIXED, RING), (HOLLOW, RING)], "shows": [(HOLLOW, RING, {(1, 2): 1}, 0)], "is_alike": [(MIXED, RING, RING)],
    "free_pairs": [(MIXED,)], "pushed": [(MIXED, (4,))], "pushes": [(MIXED,)],
    "is_pushed": [(STRETCH, [((3,), (3, 7))], [(7,)])],
    "judged": [(HOLLOW, PAIRS), (HOLLOW, [((1,), (1, 2)), ((2,), (2, 3)), ((3,), (1, 3))]), (HOLLOW, PAIRS * 2)],
    "pairing": [(TORUS,)], "left_over": [(HOLLOW, PAIRS)], "thin_seams": [(HOLLOW, PAIRS), (PLANE, [])],
    "is_map": [(MIXED, TRIANGLE, GOOD), (MIXED, TRIANGLE, {})], "image": [(MIXED, TRIANGLE, GOOD)],
    "carried": [(RING_OF_SIX, HOLLOW, TWICE, {(0, 1): 1})], "behind": [(HOLLOW, HOLLOW, HOLLOW, TURN, TURN)],
    "on_holes": [(RING_OF_SIX, HOLLOW, TWICE, 1), (BOTTLE, BOTTLE, identity(BOTTLE), 1)],
    "beside": [(HOLLOW, TRIANGLE, TURN, TURN), (HOLLOW, HOLLOW, identity(HOLLOW), TURN)],
    "prism": [(HOLLOW, TRIANGLE, identity(HOLLOW), TURN, {(1,): 1, (2,): 2}), (HOLLOW, TRIANGLE, TURN, TURN, RING)],
    "is_order": [(SOON,), ([(1, 2)],)], "order_by": [(TRIANGLE, WORTHS)],
    "worths_by_points": [(TRIANGLE, {1: 5, 2: -3, 3: 0})], "web_at": [(SOON, 4)],
    "bars": [(SOON, 3)], "paper": [(SOON, 3), (SOON[:6], 2)], "is_paper": [(SOON, 3, PAPER_OF_ORDER), (SOON, 2, PAPER_OF_ORDER)],
    "alive": [(SOON, 3, 0, 3)], "lasting": [(SOON, 3, 0, 1, 3)], "bars_by": [(TRIANGLE, WORTHS, 5)],
    "both": [(PLANE, SPHERE), (MIXED, MIXED), (EMPTY, EMPTY)], "shared": [(PLANE, SPHERE), (MIXED, MIXED)],
    "joined": [(HOLLOW, [(7,), (8,)]), (MIXED, EMPTY), (EMPTY, MIXED)], "cone": [(MIXED, 50), (EMPTY, 3)],
}

# Under each function that refuses something what it is handed in to be refused, with the error's name.
REFUSED = {
    "star": [(MIXED, (2, 4), "NoPiece")], "link": [(MIXED, (), "NoPiece")], "without": [(MIXED, (77,), "NoPiece")],
    "is_same": [(MIXED, [(2, 1)], "NoWeb")], "read": [("2-1", "NoNote")],
    "is_chain": [([()], {}, "NoWeb")], "plus": [(MIXED, RING, {(1,): 2}, "NoChain")],
    "times": [(MIXED, {(1,): 0}, 5, "NoChain")], "seam": [(MIXED, {(1, 4): 1}, "NoChain")],
    "is_closed": [(MIXED, {(1, 4): 1}, "NoChain")], "weighed": [(MIXED, {}, {(): 1}, "NoChain")],
    "around": [(MIXED, (2, 1), "NoPiece")], "shown_chain": [(MIXED, {(1,): 0}, "NoChain")],
    "read_chain": [(MIXED, "0*1", "NoNote")],
    "product": [(TABLE, [[1]], "NoTable")], "turned_over": [([[1], []], "NoTable")], "stepped": [([[1], []], "NoTable")],
    "is_stepped": [([[1], []], PAPER_OF_TABLE, "NoTable")], "steps_of": [([[1], []], "NoTable")],
    "rank": [([[1], []], "NoTable")], "rank_by": [(TABLE, 4, "NoNumber")],
    "solved": [(TABLE, [1], "NoGoal")], "shows_none": [(TABLE, [1], [1], 0, "NoGoal")],
    "brought": [(TABLE, [1], "NoGoal")], "leaves": [([[1], []], "NoTable")],
    "holes": [(MIXED, 5, "NoNumber")], "rounds": [(MIXED, -1, "NoNumber")],
    "told_by": [(MIXED, 0, RING, "NoChain"), (MIXED, 1, {(1, 2): 1}, "NotClosed")],
    "bounds": [(MIXED, {(1, 2): 1}, "NotClosed")], "shows": [(MIXED, RING, {(1,): 0}, 0, "NoChain")],
    "is_alike": [(MIXED, RING, {(1,): 1}, "NoChain")],
    "pushed": [(MIXED, (1,), "NoPush")], "is_pushed": [(MIXED, PAIRS, [(2, 1)], "NoWeb")],
    "left_over": [(HOLLOW, PAIRS * 2, "NoPush")], "thin_seams": [(HOLLOW, [((), ())], "NoPush")],
    "is_map": [(MIXED, [(2, 1)], GOOD, "NoWeb")], "image": [(MIXED, TRIANGLE, TURN, "NoMap")],
    "carried": [(MIXED, TRIANGLE, GOOD, {(1,): 0}, "NoChain")], "behind": [(MIXED, TRIANGLE, POINT, GOOD, TURN, "NoMap")],
    "on_holes": [(MIXED, TRIANGLE, GOOD, 5, "NoNumber")], "beside": [(HOLLOW, TRIANGLE, TURN, GOOD, "NoMap")],
    "prism": [(HOLLOW, HOLLOW, identity(HOLLOW), TURN, {}, "NoMap"), (HOLLOW, HOLLOW, TURN, TURN, {(): 1}, "NoChain")],
    "order_by": [(HOLLOW, WORTHS, "NoOrder")], "worths_by_points": [(TRIANGLE, {1: 1}, "NoOrder")],
    "web_at": [(SOON, 7, "NoNumber"), ([(1, 2)], 0, "NoOrder")], "bars": [(SOON, 4, "NoNumber")],
    "paper": [([(1, 2)], 4, "NoOrder")], "is_paper": [(SOON, 1, PAPER_OF_ORDER, "NoNumber")],
    "alive": [(SOON, 2, 0, -1, "NoNumber")], "lasting": [(SOON, 2, 0, 3, 1, "NoNumber")],
    "bars_by": [(TRIANGLE, {}, 4, "NoOrder"), (TRIANGLE, WORTHS, 4, "NoNumber")],
    "both": [(MIXED, [(2, 1)], "NoWeb")], "shared": [(MIXED, [(2, 1)], "NoWeb")],
    "joined": [(MIXED, MIXED, "NoWeb")], "cone": [(MIXED, 1, "NoNumber")],
}


def functions():
    """Under its name each function of the interface; no two have one name."""
    return {name: getattr(module, name) for module, some in FUNCTIONS.items() for name in some}


def takes_a_web_first(name):
    """Orders and tables have refusals of their own; is_web refuses nothing, and read takes a text."""
    firsts = {name: arguments[0] for some in FUNCTIONS.values() for name, arguments in some.items()}
    return firsts[name] == "web" and name != "is_web" or name in ["is_same", "both", "shared", "joined"]


class Whole(unittest.TestCase):
    def test_each_function_is_looked_at(self):
        self.assertEqual(set(ANSWERED), set(functions()))
        self.assertEqual(sum(len(some) for some in FUNCTIONS.values()), len(functions()))
        quiet = ["is_web", "is_table", "is_order"]
        by_web_alone = [name for name in functions() if takes_a_web_first(name) and name not in REFUSED]
        self.assertEqual(set(functions()) - set(REFUSED), set(quiet + by_web_alone))

    def test_what_is_handed_in_and_told(self):
        for name, function in functions().items():
            for handed in ANSWERED[name]:
                with self.subTest(name, handed=handed):
                    look(self, function, deepcopy(handed))
                    look_one_by_one(self, function, handed)

    def test_what_is_handed_in_and_refused(self):
        for name, rows in REFUSED.items():
            for row in rows:
                handed = deepcopy(row[:-1])
                with self.subTest(name, handed=handed):
                    with self.assertRaises(SeamError) as caught:
                        functions()[name](*handed)
                    self.assertEqual(caught.exception.__class__.__name__, row[-1])
                    self.assertEqual(repr(handed), repr(row[:-1]))

    def test_a_first_web_that_is_none_goes_ahead_of_all(self):
        for name, function in functions().items():
            if not takes_a_web_first(name):
                continue
            rows = ANSWERED[name] + [row[:-1] for row in REFUSED.get(name, [])]
            for handed in rows:
                for web in [[(2, 1)], [()], NO_WEBS["21 pieces"], NO_WEBS["201 pieces"]]:
                    with self.subTest(name, web=web), self.assertRaises(SeamError) as caught:
                        function(list(web), *deepcopy(handed[1:]))
                    self.assertEqual(caught.exception.__class__.__name__, "NoWeb")

    def test_told_the_same_each_time(self):
        for name, function in functions().items():
            for handed in ANSWERED[name]:
                with self.subTest(name):
                    self.assertEqual(repr(function(*deepcopy(handed))), repr(function(*deepcopy(handed))))


if __name__ == "__main__":
    unittest.main()
