import unittest

from seamwright import chains
from seamwright.errors import NoChain, NoPiece, NoWeb
from seamwright.webs import pieces

from samples import (
    EMPTY, FULL, HOLLOW, MIXED, NO_CHAINS, NO_WEBS, PLANE, SPHERE, TORUS, TRIANGLE, TWO_HUNDRED, all_webs, plain_seam,
    webs_with_chains,
)

RING = {(1, 2): 1, (2, 3): 1, (1, 3): -1}
FAR = 10 ** 30 - 1

# How many chains each of them is handed.
OF_CHAINS = {"plus": 2, "weighed": 2, "times": 1, "seam": 1, "is_closed": 1, "is_chain": 1}


def handed(function, *some):
    return some + (3,) if function == "times" else some


class IsChain(unittest.TestCase):
    def test_the_nought_chain(self):
        for web in all_webs():
            self.assertIs(chains.is_chain(web, {}), True, web)

    def test_each_height(self):
        for piece in [(0,), (0, 99), (1, 50, 98), (0, 1, 50, 98), (0, 1, 50, 98, 99)]:
            self.assertIs(chains.is_chain(FULL, {piece: -2}), True, piece)
        self.assertIs(chains.is_chain(MIXED, {(1,): 1, (7,): -1, (4,): 5}), True)
        self.assertIs(chains.is_chain(MIXED, {(8, 9): 1, (1, 2): -1}), True)

    def test_all_pieces_of_one_height(self):
        for size in range(1, 6):
            chain = {piece: 1 for piece in pieces(TWO_HUNDRED) if len(piece) == size}
            self.assertIs(chains.is_chain(TWO_HUNDRED, chain), True)

    def test_far_weights(self):
        for weight in [1, -1, FAR, -FAR]:
            self.assertIs(chains.is_chain(MIXED, {(1, 2): weight, (3, 4): -weight}), True, weight)

    def test_no_chains(self):
        for name, chain in NO_CHAINS.items():
            with self.subTest(name):
                self.assertIs(chains.is_chain(MIXED, dict(chain)), False)

    def test_of_no_pieces(self):
        self.assertIs(chains.is_chain(EMPTY, {(1,): 1}), False)
        self.assertIs(chains.is_chain(EMPTY, {(): 1}), False)

    def test_parts_of_what_is_handed_in_are_pieces(self):
        self.assertIs(chains.is_chain(TRIANGLE, {(1, 3): 1}), True)
        self.assertIs(chains.is_chain(HOLLOW, {(1, 2, 3): 1}), False)

    def test_varied_chains(self):
        for web, some in webs_with_chains():
            for chain in some:
                self.assertIs(chains.is_chain(web, chain), True)


class Refusals(unittest.TestCase):
    def test_no_web_goes_ahead_of_all_else(self):
        for name, web in NO_WEBS.items():
            for chain in [{}, {web[0]: 1}, {(): 0}]:
                for function, count in OF_CHAINS.items():
                    with self.subTest(name, chain=chain, function=function), self.assertRaises(NoWeb):
                        getattr(chains, function)(list(web), *handed(function, *[chain] * count))
            for piece in [web[0], (77,), ()]:
                with self.subTest(name, piece=piece), self.assertRaises(NoWeb):
                    chains.around(list(web), piece)

    def test_no_chain(self):
        for name, chain in NO_CHAINS.items():
            for function in ["times", "seam", "is_closed"]:
                with self.subTest(name, function=function), self.assertRaises(NoChain):
                    getattr(chains, function)(MIXED, *handed(function, chain))

    def test_no_chain_of_either(self):
        for name, chain in NO_CHAINS.items():
            for function in ["plus", "weighed"]:
                for other in [{}, {(1,): 1}, {(1, 2): 1}, chain]:
                    with self.subTest(name, function=function, other=other):
                        with self.assertRaises(NoChain):
                            getattr(chains, function)(MIXED, chain, other)
                        with self.assertRaises(NoChain):
                            getattr(chains, function)(MIXED, other, chain)

    def test_times_nought_refuses_too(self):
        for name, chain in NO_CHAINS.items():
            with self.subTest(name), self.assertRaises(NoChain):
                chains.times(MIXED, chain, 0)

    def test_plus_of_unlike_heights(self):
        some = [{(0,): 1}, {(0, 1): 1}, {(0, 1, 50): 1}, {(0, 1, 50, 99): 1}, {(0, 1, 50, 98, 99): 1}]
        for one in some:
            for other in some:
                if one == other:
                    self.assertEqual(chains.plus(FULL, one, other), {piece: 2 for piece in one})
                else:
                    with self.assertRaises(NoChain):
                        chains.plus(FULL, one, other)

    def test_no_piece(self):
        for piece in [(), (9,), (1, 4), (2, 1), (1, 1), (100,), (-1,), (1, 2, 3, 4), (1, 2, 3, 4, 5, 6)]:
            with self.subTest(piece=piece), self.assertRaises(NoPiece):
                chains.around([(1, 2, 3), (4, 5)], piece)
        with self.assertRaises(NoPiece):
            chains.around([], (0,))


class Seams(unittest.TestCase):
    def test_signs_by_turns(self):
        self.assertEqual(chains.seam([(3, 7)], {(3, 7): 1}), {(7,): 1, (3,): -1})
        self.assertEqual(chains.seam(TRIANGLE, {(1, 2, 3): 1}), {(2, 3): 1, (1, 3): -1, (1, 2): 1})
        self.assertEqual(
            chains.seam(FULL, {(0, 1, 50, 98): 1}),
            {(1, 50, 98): 1, (0, 50, 98): -1, (0, 1, 98): 1, (0, 1, 50): -1},
        )
        self.assertEqual(
            chains.seam(FULL, {(0, 1, 50, 98, 99): 1}),
            {(1, 50, 98, 99): 1, (0, 50, 98, 99): -1, (0, 1, 98, 99): 1, (0, 1, 50, 99): -1, (0, 1, 50, 98): 1},
        )

    def test_so_often_as_the_weight_tells(self):
        self.assertEqual(chains.seam([(3, 7)], {(3, 7): -4}), {(7,): -4, (3,): 4})
        self.assertEqual(chains.seam([(3, 7)], {(3, 7): FAR}), {(7,): FAR, (3,): -FAR})
        self.assertEqual(chains.seam(MIXED, {(2, 3): 2, (3, 4): 5}), {(2,): -2, (3,): -3, (4,): 5})

    def test_chains_of_points(self):
        self.assertEqual(chains.seam(MIXED, {(1,): 3}), {})
        self.assertEqual(chains.seam(MIXED, {(1,): 1, (7,): -FAR}), {})

    def test_the_nought_chain(self):
        self.assertEqual(chains.seam(MIXED, {}), {})
        self.assertEqual(chains.seam(EMPTY, {}), {})

    def test_rims_that_cancel_are_not_kept(self):
        self.assertEqual(chains.seam(MIXED, {(1, 2): 1, (2, 3): 1}), {(1,): -1, (3,): 1})
        self.assertEqual(chains.seam(HOLLOW, RING), {})
        ball = {(0, 1, 2): -1, (0, 1, 3): 1, (0, 2, 3): -1, (1, 2, 3): 1}
        self.assertEqual(chains.seam(SPHERE, ball), {})
        del ball[(1, 2, 3)]
        self.assertEqual(chains.seam(SPHERE, ball), {(2, 3): -1, (1, 3): 1, (1, 2): -1})

    def test_as_told_otherwise(self):
        for web, some in webs_with_chains():
            for chain in some:
                told = chains.seam(web, chain)
                self.assertEqual(told, plain_seam(chain))
                self.assertNotIn(0, told.values())
                self.assertIs(chains.is_closed(web, chain), told == {})

    def test_the_seam_of_a_seam(self):
        for web, some in webs_with_chains():
            for chain in some:
                self.assertEqual(chains.seam(web, chains.seam(web, chain)), {})

    def test_is_closed(self):
        self.assertIs(chains.is_closed(HOLLOW, {}), True)
        self.assertIs(chains.is_closed(EMPTY, {}), True)
        self.assertIs(chains.is_closed(HOLLOW, RING), True)
        self.assertIs(chains.is_closed(TRIANGLE, {(1, 2): -FAR, (2, 3): -FAR, (1, 3): FAR}), True)
        self.assertIs(chains.is_closed(HOLLOW, {(2,): 4}), True)
        self.assertIs(chains.is_closed(HOLLOW, {(1, 2): 1, (2, 3): 1, (1, 3): 1}), False)
        self.assertIs(chains.is_closed(HOLLOW, {(1, 2): 1}), False)
        self.assertIs(chains.is_closed(TRIANGLE, {(1, 2, 3): 1}), False)
        self.assertIs(chains.is_closed(PLANE, {piece: 1 for piece in PLANE}), False)


class PutTogether(unittest.TestCase):
    def test_plus(self):
        self.assertEqual(chains.plus(MIXED, {(1, 2): 1}, {(3, 4): 5}), {(1, 2): 1, (3, 4): 5})
        self.assertEqual(
            chains.plus(MIXED, {(1, 2): 1, (2, 3): 4}, {(2, 3): -7, (8, 9): 2}),
            {(1, 2): 1, (2, 3): -3, (8, 9): 2},
        )
        self.assertEqual(chains.plus(MIXED, {(7,): FAR}, {(7,): FAR}), {(7,): 2 * FAR})

    def test_weights_that_cancel(self):
        self.assertEqual(chains.plus(MIXED, {(1, 2): 3, (2, 3): 4}, {(2, 3): -4}), {(1, 2): 3})
        self.assertEqual(chains.plus(HOLLOW, RING, chains.times(HOLLOW, RING, -1)), {})
        # What cancels has no height left, and goes with any.
        nought = chains.plus(MIXED, {(1,): 1}, {(1,): -1})
        self.assertEqual(chains.plus(MIXED, nought, {(1, 2): 1}), {(1, 2): 1})

    def test_the_nought_chain_on_either_side(self):
        for web, some in webs_with_chains():
            for chain in some:
                self.assertEqual(chains.plus(web, chain, {}), chain)
                self.assertEqual(chains.plus(web, {}, chain), chain)

    def test_times(self):
        chain = {(1, 2): 2, (2, 3): -5}
        self.assertEqual(chains.times(MIXED, chain, 1), chain)
        self.assertEqual(chains.times(MIXED, chain, 0), {})
        self.assertEqual(chains.times(MIXED, chain, -3), {(1, 2): -6, (2, 3): 15})
        self.assertEqual(chains.times(MIXED, chain, FAR), {(1, 2): 2 * FAR, (2, 3): -5 * FAR})
        self.assertEqual(chains.times(MIXED, {(7,): -FAR}, -FAR), {(7,): FAR * FAR})
        self.assertEqual(chains.times(MIXED, {}, 8), {})
        self.assertEqual(chains.times(EMPTY, {}, 0), {})

    def test_what_was_told_is_taken_again(self):
        chain = {(7,): 10 ** 29}
        for turn in range(1, 9):
            chain = chains.times(MIXED, chain, 10 ** 29)
            self.assertIs(chains.is_chain(MIXED, chain), True)
            self.assertEqual(chain, {(7,): 10 ** (29 * (turn + 1))})

    def test_seams_of_what_is_put_together(self):
        for web, some in webs_with_chains():
            for one in some:
                for other in some:
                    if {len(piece) for piece in one} != {len(piece) for piece in other}:
                        continue
                    both = chains.plus(web, one, other)
                    self.assertEqual(both, chains.plus(web, other, one))
                    seams = chains.plus(web, chains.seam(web, one), chains.seam(web, other))
                    self.assertEqual(chains.seam(web, both), seams)

    def test_seams_of_so_many_times(self):
        for web, some in webs_with_chains():
            for chain in some:
                for often in [0, 1, -1, 7, -FAR]:
                    many = chains.times(web, chain, often)
                    self.assertEqual(chains.seam(web, many), chains.times(web, chains.seam(web, chain), often))

    def test_twice_is_put_together_with_itself(self):
        for web, some in webs_with_chains():
            for chain in some:
                self.assertEqual(chains.times(web, chain, 2), chains.plus(web, chain, chain))


class Weighed(unittest.TestCase):
    def test_of_one_height(self):
        weights = {(1, 2): 2, (2, 3): -3, (8, 9): 100}
        self.assertEqual(chains.weighed(MIXED, weights, {(1, 2): 5, (2, 3): 7, (3, 4): 1000}), 10 - 21)
        self.assertEqual(chains.weighed(MIXED, {(7,): FAR}, {(7,): -FAR, (8,): 1}), -FAR * FAR)
        self.assertEqual(chains.weighed(MIXED, {(1, 2): 1}, {(3, 4): 1}), 0)

    def test_of_unlike_heights(self):
        self.assertEqual(chains.weighed(MIXED, {(1, 2): 1}, {(1,): 1}), 0)
        self.assertEqual(chains.weighed(MIXED, {(1,): 1}, {(1, 2, 3): 1}), 0)

    def test_of_the_nought_chain(self):
        for chain in [{}, {(1,): 1}, {(1, 2, 3): FAR}]:
            self.assertEqual(chains.weighed(MIXED, {}, chain), 0)
            self.assertEqual(chains.weighed(MIXED, chain, {}), 0)
        self.assertEqual(chains.weighed(EMPTY, {}, {}), 0)

    def test_as_told_otherwise(self):
        for web, some in webs_with_chains():
            for one in some:
                for other in some:
                    shared = set(one) & set(other)
                    told = sum(one[piece] * other[piece] for piece in shared)
                    self.assertEqual(chains.weighed(web, one, other), told)


class Around(unittest.TestCase):
    def test_a_point(self):
        self.assertEqual(chains.around(MIXED, (3,)), {(1, 3): 1, (2, 3): 1, (3, 4): -1})
        self.assertEqual(chains.around(MIXED, (1,)), {(1, 2): -1, (1, 3): -1})

    def test_greater_pieces(self):
        self.assertEqual(chains.around(TRIANGLE, (1, 3)), {(1, 2, 3): -1})
        self.assertEqual(chains.around(SPHERE, (1, 2)), {(0, 1, 2): 1, (1, 2, 3): 1})
        self.assertEqual(chains.around(SPHERE, (0, 2)), {(0, 1, 2): -1, (0, 2, 3): 1})
        self.assertEqual(chains.around(FULL, (0, 1, 50, 99)), {(0, 1, 50, 98, 99): -1})
        self.assertEqual(chains.around(FULL, (0, 1, 98)), {(0, 1, 50, 98): 1, (0, 1, 98, 99): -1})

    def test_greatest_pieces(self):
        for piece in [(7,), (8, 9), (3, 4), (1, 2, 3)]:
            self.assertEqual(chains.around(MIXED, piece), {})
        self.assertEqual(chains.around(FULL, FULL[0]), {})

    def test_weighed_on_a_chain(self):
        for web, some in webs_with_chains():
            for piece in pieces(web)[::5]:
                weights = chains.around(web, piece)
                self.assertIs(chains.is_chain(web, weights), True)
                for chain in some:
                    stands = plain_seam(chain).get(piece, 0)
                    self.assertEqual(chains.weighed(web, weights, chain), stands)

    def test_the_seam_of_each_piece_as_often(self):
        for web in [MIXED, FULL, SPHERE, TORUS, PLANE]:
            for piece in pieces(web):
                weights = chains.around(web, piece)
                self.assertNotIn(0, weights.values())
                for other in pieces(web):
                    stands = plain_seam({other: 1}).get(piece, 0)
                    self.assertEqual(weights.get(other, 0), stands)


class OwnDicts(unittest.TestCase):
    def calls(self):
        one = {(1, 2): 2, (2, 3): -5}
        other = {(2, 3): 5, (8, 9): 1}
        for chain in [one, {}]:
            for function in ["is_chain", "seam", "is_closed"]:
                yield function, (list(MIXED), dict(chain))
            for often in [0, 1, -2]:
                yield "times", (list(MIXED), dict(chain), often)
            for function in ["plus", "weighed"]:
                yield function, (list(MIXED), dict(chain), dict(other))
                yield function, (list(MIXED), dict(other), dict(chain))
                yield function, (list(MIXED), dict(chain), {})
        yield "around", (list(MIXED), (3,))
        yield "around", (list(MIXED), (7,))

    def test_what_is_handed_in_is_the_same_behind(self):
        for function, told in self.calls():
            with self.subTest(function):
                before = repr(told)
                getattr(chains, function)(*told)
                self.assertEqual(repr(told), before)

    def test_refused_dicts_are_the_same_behind(self):
        for name, chain in NO_CHAINS.items():
            told = dict(chain)
            chains.is_chain(MIXED, told)
            with self.subTest(name), self.assertRaises(NoChain):
                chains.plus(MIXED, told, told)
            self.assertEqual(repr(told), repr(chain))

    def test_what_was_told_may_be_changed(self):
        for function, told in self.calls():
            answer = getattr(chains, function)(*told)
            if not isinstance(answer, dict):
                continue
            with self.subTest(function, told=told):
                before = repr(told)
                again = getattr(chains, function)(*told)
                shape = repr(again)
                answer[(60, 61)] = 8
                answer[(1, 2)] = 1000
                self.assertEqual(repr(told), before)
                self.assertEqual(repr(again), shape)
                self.assertEqual(repr(getattr(chains, function)(*told)), shape)

    def test_what_was_handed_in_may_be_changed_behind(self):
        for function, told in self.calls():
            answer = getattr(chains, function)(*told)
            with self.subTest(function, told=told):
                shape = repr(answer)
                for value in told:
                    if not isinstance(value, (int, tuple)):
                        value.clear()
                self.assertEqual(repr(answer), shape)

    def test_one_dict_handed_in_twice(self):
        chain = {(1, 2): 2}
        self.assertEqual(chains.plus(MIXED, chain, chain), {(1, 2): 4})
        self.assertEqual(chains.weighed(MIXED, chain, chain), 4)
        self.assertEqual(chain, {(1, 2): 2})


if __name__ == "__main__":
    unittest.main()
