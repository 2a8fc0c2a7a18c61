import unittest

from seamwright.bounding import bounds, is_alike, shows
from seamwright.chains import is_chain
from seamwright.errors import NoChain, NotClosed, NoWeb
from seamwright.holes import rounds

from owned import Owned
from samples import (
    EMPTY, FULL, HOLES, HOLLOW, MIXED, NO_CHAINS, NO_WEBS, PLANE, POINT, SPHERE, SPHERE_OF_4, THREEFOLD, TORUS,
    TRIANGLE, TWO_RINGS, all_webs, plain_pieces, plain_seam, told_in_order, varied_numbers, webs_with_chains,
)

FAR = 10 ** 30 - 1
RING = {(1, 2): 1, (2, 3): 1, (1, 3): -1}

# Webs with chains that aren't closed.
NOT_CLOSED = [
    (HOLLOW, {(1, 2): 1}), (HOLLOW, {(1, 2): 1, (2, 3): 1, (1, 3): 1}), (SPHERE, {(0, 1, 2): 1}),
    (FULL, {FULL[0]: -3}), (PLANE, {piece: 1 for piece in PLANE}), (FULL, {(0, 1, 50, 98): 1}), (MIXED, {(8, 9): FAR}),
]


def times(chain, often):
    return {piece: often * weight for piece, weight in chain.items() if often}


def plus(one, other):
    told = dict(one)
    for piece, weight in other.items():
        told[piece] = told.get(piece, 0) + weight
    return {piece: weight for piece, weight in told.items() if weight}


def plain_weighed(weights, chain):
    return sum(weights.get(piece, 0) * weight for piece, weight in chain.items())


def plain_shows(web, chain, weights, number):
    if number == 1 or number < 0:
        return False
    seams = [plain_weighed(weights, plain_seam({tuple(sorted(piece)): 1})) for piece in plain_pieces(web)]
    weighed = plain_weighed(weights, chain)
    if number == 0:
        return not any(seams) and weighed != 0
    return not any(total % number for total in seams) and weighed % number != 0


def closed_chains():
    """Tuples of a web and a closed chain: rounds of it, some of them put together, and seams."""
    for seed, web in enumerate(all_webs()[12::6] + [list(web) for name, web, told in HOLES]):
        for height in range(5):
            free, twisted = rounds(web, height)
            every = free + [row[0] for row in twisted]
            above = [piece for piece in told_in_order(plain_pieces(web)) if len(piece) == height + 2]
            chain = plain_seam(dict(zip(above, varied_numbers(len(above), 1, 9, seed))))
            for often, piece in zip(varied_numbers(len(every), -3, 3, seed), every):
                yield web, dict(chain)
                chain = plus(chain, times(piece, often))
            yield web, chain
            for piece in every:
                yield web, dict(piece)


class Bounds(unittest.TestCase):
    def look_at(self, web, chain):
        told = bounds(web, chain)
        self.assertEqual(tuple, told.__class__)
        if told[0] == "fills":
            self.assertEqual((len(told), told[1].__class__), (2, dict))
            self.assertIs(is_chain(web, told[1]), True)
            self.assertEqual(plain_seam(told[1]), chain)
            if chain:
                self.assertEqual({len(piece) for piece in told[1]}, {len(piece) + 1 for piece in chain})
        else:
            self.assertEqual((told[0], len(told)), ("shows", 3))
            self.assertEqual([dict, int], [value.__class__ for value in told[1:]])
            self.assertIs(is_chain(web, told[1]), True)
            self.assertEqual({len(piece) for piece in told[1]}, {len(piece) for piece in chain})
            self.assertTrue(told[2] == 0 or told[2] > 1)
            self.assertTrue(plain_shows(web, chain, told[1], told[2]))
            self.assertIs(shows(web, chain, told[1], told[2]), True)
        return told

    def test_the_nought_chain(self):
        for web in all_webs():
            self.assertEqual(bounds(web, {}), ("fills", {}))

    def test_fills(self):
        self.assertEqual(bounds(TRIANGLE, RING), ("fills", {(1, 2, 3): 1}))
        self.assertEqual(bounds(TRIANGLE, times(RING, -FAR)), ("fills", {(1, 2, 3): -FAR}))
        self.assertEqual(bounds(MIXED, {(8,): -2, (9,): 2}), ("fills", {(8, 9): 2}))
        for web, chain in [
            (FULL, {(0,): 1, (99,): -1}), (MIXED, {(1,): 5, (4,): -3, (2,): -2}), (SPHERE, {(0,): 1, (3,): -1}),
        ]:
            self.assertEqual(self.look_at(web, chain)[0], "fills")

    def test_shows_by_nought(self):
        for web, chain in [
            (HOLLOW, RING), (HOLLOW, times(RING, FAR)), (POINT, {(5,): -1}), (MIXED, {(1,): 1, (7,): -1}),
            (SPHERE, {(0, 1, 2): -1, (0, 1, 3): 1, (0, 2, 3): -1, (1, 2, 3): 1}),
            (SPHERE_OF_4, plain_seam({(0, 1, 2, 3, 4, 5): 7})), (TWO_RINGS, {(0, 1): 2, (1, 2): 2, (0, 2): -2}),
        ]:
            with self.subTest(chain=chain):
                told = self.look_at(web, chain)
                self.assertEqual(told[0], "shows")

    def test_twisted_rounds(self):
        """They don't bound, but so many times they do; and no weights by nought show anything of them."""
        for web, number in [(PLANE, 2), (THREEFOLD, 3)]:
            chain = rounds(web, 1)[1][0][0]
            for often in range(-7, 8):
                told = self.look_at(web, times(chain, often))
                if often % number == 0:
                    self.assertEqual(told[0], "fills")
                else:
                    self.assertEqual(told[0], "shows")
                    self.assertEqual(told[2] % number, 0)
                    self.assertGreater(told[2], 1)

    def test_pieces_of_height_4(self):
        """Nothing lies above them, so only the nought chain bounds."""
        chain = plain_seam({(0, 1, 2, 3, 4, 5): 1})
        self.assertEqual(self.look_at(SPHERE_OF_4, chain)[0], "shows")
        self.assertEqual(bounds(SPHERE_OF_4, {}), ("fills", {}))

    def test_seams_bound(self):
        for web, some in webs_with_chains():
            for chain in some:
                self.assertEqual(self.look_at(web, plain_seam(chain))[0], "fills")

    def test_closed_chains(self):
        found = {"fills": 0, "shows": 0}
        for web, chain in closed_chains():
            found[self.look_at(web, chain)[0]] += 1
        self.assertGreater(min(found.values()), 50)

    def test_refusals_in_order(self):
        for name, web in NO_WEBS.items():
            for chain in [{}, {web[0]: 1}, {(): 0}]:
                with self.subTest(name, chain=chain), self.assertRaises(NoWeb):
                    bounds(list(web), chain)
        for name, chain in NO_CHAINS.items():
            with self.subTest(name), self.assertRaises(NoChain):
                bounds(MIXED, chain)
        for web, chain in NOT_CLOSED:
            with self.subTest(chain=chain), self.assertRaises(NotClosed):
                bounds(web, chain)


class Shows(unittest.TestCase):
    def test_by_nought(self):
        self.assertIs(shows(HOLLOW, RING, {(1, 2): 1}, 0), True)
        self.assertIs(shows(HOLLOW, RING, {(1, 2): -FAR}, 0), True)
        self.assertIs(shows(HOLLOW, RING, {(1, 2): 1, (1, 3): 1}, 0), False)
        self.assertIs(shows(TRIANGLE, RING, {(1, 2): 1}, 0), False)
        self.assertIs(shows(MIXED, {(7,): 2}, {(7,): 1}, 0), True)
        self.assertIs(shows(MIXED, {(8,): 2}, {(8,): 1}, 0), False)
        self.assertIs(shows(MIXED, {(8,): 2}, {(8,): 1, (9,): 1}, 0), True)
        self.assertIs(shows(MIXED, {(8,): 2, (9,): -2}, {(8,): 1, (9,): 1}, 0), False)

    def test_by_a_number(self):
        self.assertIs(shows(HOLLOW, RING, {(1, 2): 1}, 2), True)
        self.assertIs(shows(HOLLOW, times(RING, 4), {(1, 2): 1}, 2), False)
        self.assertIs(shows(HOLLOW, times(RING, 4), {(1, 2): 1}, 3), True)
        self.assertIs(shows(HOLLOW, times(RING, 4), {(1, 2): 3}, 3), False)
        self.assertIs(shows(TRIANGLE, RING, {(1, 2): 1}, 2), False)
        self.assertIs(shows(MIXED, {(8,): 1}, {(8,): 1, (9,): 3}, 2), True)
        self.assertIs(shows(MIXED, {(8,): 1}, {(8,): 1, (9,): 3}, 3), False)
        self.assertIs(shows(MIXED, {(8,): 1}, {(8,): 1, (9,): 3}, 0), False)
        self.assertIs(shows(MIXED, {(8,): 1}, {(8,): 1, (9,): 1 + FAR}, FAR), True)

    def test_numbers_that_show_nothing(self):
        for number in [1, -1, -2, -3, -FAR]:
            self.assertIs(shows(HOLLOW, RING, {(1, 2): 1}, number), False)
            self.assertIs(shows(POINT, {(5,): 1}, {(5,): 1}, number), False)
        for web, chain in closed_chains():
            told = bounds(web, chain)
            if told[0] == "shows":
                for number in [1, -1, -2, -max(told[2], 1)]:
                    self.assertIs(shows(web, chain, told[1], number), False)

    def test_weights_of_another_height(self):
        for weights in [{(1,): 1}, {(3,): 2, (2,): 5}]:
            for number in [0, 2, 3]:
                self.assertIs(shows(HOLLOW, RING, weights, number), False)
        self.assertIs(shows(SPHERE, {(0,): 1}, {(0, 1): 1}, 2), False)
        self.assertIs(shows(SPHERE, {(0,): 1}, {(0, 1, 2): 1}, 0), False)
        self.assertIs(shows(FULL, {(0,): 1}, {FULL[0]: 1}, 0), False)

    def test_nought_weights_and_the_nought_chain(self):
        for number in [0, 1, 2, 7, -1]:
            self.assertIs(shows(HOLLOW, RING, {}, number), False)
            self.assertIs(shows(HOLLOW, {}, {(1, 2): 1}, number), False)
            self.assertIs(shows(HOLLOW, {}, {}, number), False)
            self.assertIs(shows(EMPTY, {}, {}, number), False)

    def test_as_told_otherwise(self):
        found = [0, 0]
        for seed, (web, chain) in enumerate(closed_chains()):
            sizes = {len(piece) for piece in chain}
            every = [piece for piece in told_in_order(plain_pieces(web)) if len(piece) in sizes]
            for reach in [1, 2]:
                numbers = varied_numbers(len(every), -reach, reach, seed)
                weights = {piece: weight for piece, weight in zip(every, numbers) if weight}
                alike = {piece: 1 for piece in every}
                for some in [weights, alike]:
                    for number in [0, 2, 3]:
                        told = shows(web, chain, some, number)
                        self.assertIs(told, plain_shows(web, chain, some, number))
                        found[told] += 1
        self.assertGreater(min(found), 50)

    def test_nothing_shows_what_is_not_so(self):
        for web, chain in closed_chains():
            if bounds(web, chain)[0] == "fills":
                for piece in chain:
                    for number in [0, 2, 3]:
                        self.assertIs(shows(web, chain, {piece: 1}, number), False)

    def test_refusals_in_order(self):
        for name, web in NO_WEBS.items():
            with self.subTest(name), self.assertRaises(NoWeb):
                shows(list(web), {(): 0}, {(): 0}, 1)
        for name, chain in NO_CHAINS.items():
            for weights in [{}, {(1, 2): 1}, {(): 0}]:
                with self.subTest(name), self.assertRaises(NoChain):
                    shows(MIXED, chain, weights, 0)
        for web, chain in NOT_CLOSED:
            for weights in [{}, chain, {(): 0}, {(70, 71): 1}]:
                for number in [0, 1, -1]:
                    with self.subTest(chain=chain, weights=weights), self.assertRaises(NotClosed):
                        shows(web, chain, weights, number)
        for name, weights in NO_CHAINS.items():
            for chain in [{}, {(1,): 1}, RING]:
                for number in [0, 1, -1, 2]:
                    with self.subTest(name, chain=chain), self.assertRaises(NoChain):
                        shows(MIXED, chain, weights, number)

    def test_weights_need_not_be_closed(self):
        self.assertIs(shows(HOLLOW, RING, {(1, 2): 1}, 0), True)


class IsAlike(unittest.TestCase):
    def test_alike(self):
        self.assertIs(is_alike(TRIANGLE, RING, {}), True)
        self.assertIs(is_alike(TRIANGLE, {}, RING), True)
        self.assertIs(is_alike(TRIANGLE, RING, times(RING, -5)), True)
        self.assertIs(is_alike(MIXED, {(1,): 1}, {(4,): 1}), True)
        self.assertIs(is_alike(MIXED, {(1,): 2, (8,): 1}, {(4,): 1, (2,): 1, (9,): 1}), True)
        self.assertIs(is_alike(SPHERE, {(0, 1): 1, (1, 2): 1, (0, 2): -1}, {(0, 1): 1, (1, 3): 1, (0, 3): -1}), True)

    def test_not_alike(self):
        self.assertIs(is_alike(HOLLOW, RING, {}), False)
        self.assertIs(is_alike(HOLLOW, {}, RING), False)
        self.assertIs(is_alike(HOLLOW, RING, times(RING, -1)), False)
        self.assertIs(is_alike(HOLLOW, RING, times(RING, 2)), False)
        self.assertIs(is_alike(MIXED, {(1,): 1}, {(7,): 1}), False)
        self.assertIs(is_alike(MIXED, {(1,): 1}, {(1,): 2}), False)
        self.assertIs(is_alike(MIXED, {(1,): 1}, {(4,): -1}), False)
        one, other = rounds(TORUS, 1)[0]
        self.assertIs(is_alike(TORUS, one, other), False)
        self.assertIs(is_alike(TORUS, other, one), False)

    def test_the_first_less_the_second(self):
        """A twisted round of 2 is alike to itself taken from nought; one of 3 isn't, but to twice itself so taken."""
        for web, number in [(PLANE, 2), (THREEFOLD, 3)]:
            chain = rounds(web, 1)[1][0][0]
            for one in range(-3, 4):
                for other in range(-3, 4):
                    told = is_alike(web, times(chain, one), times(chain, other))
                    self.assertIs(told, (one - other) % number == 0)

    def test_the_same_chain(self):
        for web, chain in closed_chains():
            self.assertIs(is_alike(web, chain, dict(chain)), True)
            self.assertIs(is_alike(web, chain, chain), True)

    def test_with_the_nought_chain(self):
        for web, chain in closed_chains():
            told = bounds(web, chain)[0] == "fills"
            self.assertIs(is_alike(web, chain, {}), told)
            self.assertIs(is_alike(web, {}, chain), told)
        self.assertIs(is_alike(EMPTY, {}, {}), True)

    def test_a_seam_more(self):
        for web, some in webs_with_chains():
            for chain in some[1:4]:
                seam = plain_seam(chain)
                start = {piece: 3 for piece in list(seam)[:1]} if seam and len(list(seam)[0]) == 1 else {}
                self.assertIs(is_alike(web, plus(start, seam), start), True)

    def test_no_web_goes_ahead(self):
        for name, web in NO_WEBS.items():
            with self.subTest(name), self.assertRaises(NoWeb):
                is_alike(list(web), {(): 0}, {(): 0})

    def test_the_first_goes_ahead_of_the_second(self):
        open_one = {(1, 2): 1}
        for name, chain in NO_CHAINS.items():
            for other in [{}, RING, {(1,): 1}, open_one, chain]:
                with self.subTest(name, other=other), self.assertRaises(NoChain):
                    is_alike(MIXED, chain, other)
            with self.subTest(name), self.assertRaises(NotClosed):
                is_alike(MIXED, open_one, chain)
            for one in [{}, RING, {(1,): 1}]:
                with self.subTest(name, one=one), self.assertRaises(NoChain):
                    is_alike(MIXED, one, chain)

    def test_not_closed(self):
        for web, chain in NOT_CLOSED:
            point = {next(piece for piece in told_in_order(plain_pieces(web))): 1}
            for other in [{}, point, chain]:
                with self.subTest(chain=chain, other=other), self.assertRaises(NotClosed):
                    is_alike(web, chain, other)
                with self.subTest(chain=chain, other=other), self.assertRaises(NotClosed):
                    is_alike(web, other, chain)

    def test_unlike_heights(self):
        some = [{(0,): 1}] + [plain_seam({FULL[0][:size]: 1}) for size in [3, 4, 5]]
        for one in some:
            for other in some:
                if one != other:
                    with self.subTest(one=one, other=other), self.assertRaises(NoChain):
                        is_alike(FULL, one, other)
        with self.assertRaises(NoChain):
            is_alike(HOLLOW, RING, {(1,): 1})
        with self.assertRaises(NoChain):
            is_alike(HOLLOW, {(1,): 1}, RING)


class OwnAnswers(Owned, unittest.TestCase):
    def cases(self):
        for web, chain in [
            (TRIANGLE, RING), (HOLLOW, RING), (HOLLOW, {}), (EMPTY, {}), (PLANE, rounds(PLANE, 1)[1][0][0]),
            (POINT, {(5,): 4}), (TRIANGLE, {(1,): 1, (2,): -1}), (PLANE, rounds(PLANE, 1)[1][0][0]),
        ]:
            yield bounds, (list(web), dict(chain))
            yield is_alike, (list(web), dict(chain), {})
            yield is_alike, (list(web), {}, dict(chain))
            yield is_alike, (list(web), dict(chain), dict(chain))
            for number in [0, 1, 2]:
                yield shows, (list(web), dict(chain), dict(chain), number)

    def test_refused_dicts_are_the_same_behind(self):
        for name, chain in NO_CHAINS.items():
            told = dict(chain)
            for function, handed in [(bounds, (told,)), (shows, ({}, told, 0)), (is_alike, ({}, told))]:
                with self.subTest(name), self.assertRaises(NoChain):
                    function(MIXED, *handed)
            self.assertEqual(repr(told), repr(chain))


if __name__ == "__main__":
    unittest.main()
