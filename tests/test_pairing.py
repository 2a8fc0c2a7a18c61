import unittest
from itertools import combinations

from seamwright.chains import is_chain
from seamwright.errors import NoPush, NoWeb
from seamwright.holes import holes
from seamwright.pairing import judged, left_over, pairing, thin_seams
from seamwright.pushing import pushes
from seamwright.steps import steps_of

from owned import Owned
from samples import (
    EMPTY, FULL, HOLES, HOLLOW, HUNG, MIXED, NET, NO_WEBS, PLANE, POINT, RING_OF_SIX, SPHERE, SPHERE_OF_3, STRETCH,
    THREEFOLD, TORUS, TRIANGLE, TWO_HUNDRED, all_webs, holes_by_prime, plain_pairs, plain_pieces, plain_rims,
    plain_seam, put_together, rank_by_prime, some_webs, told_in_order, varied_numbers, webs_with_holes,
)

HEIGHTS = range(5)
FAR = 10 ** 30 - 1

# Tuples of a web and a list of pairs that is a round.
ROUNDS = {
    "three stretches": (HOLLOW, [((1,), (1, 2)), ((2,), (2, 3)), ((3,), (1, 3))]),
    "three stretches the other way": (HOLLOW, [((1,), (1, 3)), ((3,), (2, 3)), ((2,), (1, 2))]),
    "three stretches of a triangle": (TRIANGLE, [((1,), (1, 2)), ((2,), (2, 3)), ((3,), (1, 3))]),
    "four stretches": (
        [(0, 1), (1, 2), (2, 3), (0, 3)], [((0,), (0, 1)), ((1,), (1, 2)), ((2,), (2, 3)), ((3,), (0, 3))],
    ),
    "six stretches": (
        RING_OF_SIX,
        [((0,), (0, 1)), ((1,), (1, 2)), ((2,), (2, 3)), ((3,), (3, 4)), ((4,), (4, 5)), ((5,), (0, 5))],
    ),
    "three triangles": (SPHERE, [((0, 1), (0, 1, 2)), ((0, 2), (0, 2, 3)), ((0, 3), (0, 1, 3))]),
    "five triangles": (PLANE, [
        ((0, 1), (0, 1, 2)), ((0, 2), (0, 2, 3)), ((0, 3), (0, 3, 4)), ((0, 4), (0, 4, 5)), ((0, 5), (0, 1, 5)),
    ]),
    "three pieces of four points": (SPHERE_OF_3, [
        ((0, 1, 2), (0, 1, 2, 3)), ((0, 1, 3), (0, 1, 3, 4)), ((0, 1, 4), (0, 1, 2, 4)),
    ]),
    "three pieces of five points": (
        [(0, 1, 2, 3, 4), (0, 1, 2, 4, 5), (0, 1, 2, 3, 5)],
        [((0, 1, 2, 3), (0, 1, 2, 3, 4)), ((0, 1, 2, 4), (0, 1, 2, 4, 5)), ((0, 1, 2, 5), (0, 1, 2, 3, 5))],
    ),
}

# Tuples that are no pair of MIXED.
NO_PAIRS = [
    ((), ()), ((), (3,)), ((1,), (1,)), ((1, 2), (1, 2)), ((1, 2), (1,)), ((1,), (1, 2, 3)), ((1,), (2, 3)),
    ((1,), (2, 1)), ((2, 1), (1, 2, 3)), ((1, 4), (1, 2, 3)), ((1,), (1, 4)), ((77,), (77, 78)), ((7,), (7, 8)),
    ((8,), (7,)), ((1, 1), (1, 1, 2)), ((-1,), (-1, 3)), ((3,), (3, 100)), ((FAR,), (-FAR,)), ((50,), (50,)),
    ((1, 2, 3, 4, 5), (1, 2, 3, 4, 5, 6)), ((3, 4), (1, 2, 3)),
]


def plain_bad(web, pairs):
    """The place of the first tuple that is no pair or has a piece of one ahead; None if there is none."""
    every = plain_pairs(web)
    for k, pair in enumerate(pairs):
        ahead = [piece for other in pairs[:k] for piece in other]
        if pair not in every or set(pair) & set(ahead):
            return k
    return None


def has_round(pairs):
    """Pairs from which no step leads to another one are taken out, again and again; a round stays."""
    left = list(pairs)
    while left:
        firsts = {pair[0] for pair in left}
        stay = [pair for pair in left if (plain_rims(pair[1]) - {pair[0]}) & firsts]
        if len(stay) == len(left):
            return True
        left = stay
    return False


def is_round(pairs):
    if not pairs or len(set(pairs)) < len(pairs):
        return False
    return all(
        ahead[0] != pair[0] and pair[0] in plain_rims(ahead[1]) for ahead, pair in zip(pairs, pairs[1:] + pairs[:1])
    )


def plain_kind(web, pairs):
    if plain_bad(web, pairs) is not None:
        return "bad"
    return "round" if has_round(pairs) else "pairing"


def mixed_up(some, seed):
    """The same members in another order."""
    keys = varied_numbers(len(some), 0, 10 ** 6, seed)
    return [member for key, member in sorted(zip(keys, some))]


def varied_row(web, seed):
    """A row of pairs, in no order, to which none can be put so that no piece stands twice; often with rounds."""
    row = []
    for pair in mixed_up(plain_pairs(web), seed):
        if not any(piece in other for piece in pair for other in row):
            row.append(pair)
    return row


def varied_pairing(web, seed):
    row = []
    for pair in mixed_up(plain_pairs(web), seed):
        if plain_kind(web, row + [pair]) == "pairing":
            row.append(pair)
    return row


def some_pairings():
    """Tuples of a web and a pairing of it, great and small ones."""
    for seed, web in enumerate(some_webs()):
        yield web, []
        yield web, pairing(web)
        yield web, pushes(web)[0]
        if len(plain_pairs(web)) < 150:
            row = varied_pairing(web, seed)
            yield web, row
            yield web, row[::2]


def roads_from(piece, pairs):
    """All roads from a piece, each as the list of its pieces."""
    seconds = dict(pairs)
    told = []
    waiting = [[piece]]
    while waiting:
        road = waiting.pop()
        told.append(road)
        if road[-1] in seconds:
            others = plain_rims(seconds[road[-1]]) - {road[-1]}
            waiting += [road + [rim] for rim in sorted(others)]
    return told


def worth_of(road, pairs):
    seconds = dict(pairs)
    worth = 1
    for piece, rim in zip(road, road[1:]):
        weights = plain_seam({seconds[piece]: 1})
        worth *= -weights[rim] * weights[piece]
    return worth


def plain_thin_seam(piece, pairs):
    stands = {other for pair in pairs for other in pair}
    terms = []
    for rim, weight in plain_seam({piece: 1}).items():
        for road in roads_from(rim, pairs):
            if road[-1] not in stands:
                terms.append((weight * worth_of(road, pairs), {road[-1]: 1}))
    return put_together(terms)


def thin_table(told, height):
    """A row for each piece left over of the height: its thin seam by the pieces left over below."""
    below = [piece for piece, chain in told if len(piece) == height]
    return [[chain.get(rim, 0) for rim in below] for piece, chain in told if len(piece) == height + 1]


class Judged(unittest.TestCase):
    def look_at(self, web, pairs):
        told = judged(web, pairs)
        self.assertEqual(told.__class__, tuple)
        kind = plain_kind(web, pairs)
        self.assertEqual(told[0], kind)
        if kind == "pairing":
            self.assertEqual(told, ("pairing",))
        if kind == "bad":
            self.assertEqual(told, ("bad", plain_bad(web, pairs)))
        if kind == "round":
            self.assertEqual((len(told), told[1].__class__), (2, list))
            self.assertLessEqual(set(told[1]), set(pairs))
            self.assertTrue(is_round(told[1]))
        return told

    def test_no_pairs(self):
        for web in all_webs():
            self.assertEqual(judged(web, []), ("pairing",))

    def test_pairings(self):
        for web, pairs in [
            (STRETCH, [((3,), (3, 7))]), (STRETCH, [((7,), (3, 7))]), (HOLLOW, [((1,), (1, 2)), ((2,), (2, 3))]),
            (TRIANGLE, [((1, 3), (1, 2, 3)), ((1,), (1, 2)), ((3,), (2, 3))]), (FULL, [(FULL[0][:4], FULL[0])]),
            (MIXED, [((8,), (8, 9)), ((4,), (3, 4)), ((1, 2), (1, 2, 3))]),
        ]:
            with self.subTest(pairs=pairs):
                self.assertEqual(self.look_at(web, pairs), ("pairing",))
                self.assertEqual(self.look_at(web, pairs[::-1]), ("pairing",))

    def test_rows_of_pushes(self):
        for web in webs_with_holes():
            self.assertEqual(self.look_at(web, pushes(web)[0]), ("pairing",))

    def test_each_single_pair(self):
        for web in [STRETCH, TRIANGLE, HOLLOW, MIXED, SPHERE_OF_3, PLANE, FULL]:
            for pair in plain_pairs(web):
                self.assertEqual(judged(web, [pair]), ("pairing",))
                self.assertEqual(judged(web, [pair[::-1]]), ("bad", 0))

    def test_tuples_that_are_no_pairs(self):
        good = [((8,), (8, 9)), ((4,), (3, 4)), ((1, 2), (1, 2, 3))]
        for pair in NO_PAIRS:
            for k in range(4):
                with self.subTest(pair=pair, k=k):
                    self.assertEqual(self.look_at(MIXED, good[:k] + [pair] + good[k:]), ("bad", k))
            self.assertEqual(judged(EMPTY, [pair]), ("bad", 0))

    def test_pieces_that_stand_ahead(self):
        start = [((1,), (1, 2)), ((3,), (3, 4))]
        for pair in [
            ((1,), (1, 2)), ((1,), (1, 3)), ((2,), (1, 2)), ((1, 2), (1, 2, 3)), ((3,), (2, 3)), ((4,), (3, 4)),
        ]:
            with self.subTest(pair=pair):
                self.assertEqual(self.look_at(MIXED, start + [pair]), ("bad", 2))
                self.assertEqual(self.look_at(MIXED, start + [((8,), (8, 9)), pair, ((), ())]), ("bad", 3))
                self.assertEqual(self.look_at(MIXED, [pair, pair] + start), ("bad", 1))

    def test_the_first_bad_one_of_several(self):
        good = ((8,), (8, 9))
        bad = ((), ())
        for k in range(4):
            for more in range(3):
                pairs = [good, ((4,), (3, 4)), ((1, 2), (1, 2, 3))][:k] + [bad] + [good, bad, bad][:more]
                self.assertEqual(self.look_at(MIXED, pairs), ("bad", k))

    def test_a_hundred_tuples(self):
        self.assertEqual(judged(STRETCH, [((3,), (3, 7))] * 100), ("bad", 1))
        self.assertEqual(judged(MIXED, [((), ())] * 100), ("bad", 0))

    def test_rounds(self):
        for name, (web, pairs) in ROUNDS.items():
            with self.subTest(name):
                self.assertTrue(is_round(pairs))
                for seed in range(5):
                    told = self.look_at(web, mixed_up(pairs, seed))
                    self.assertEqual(told[0], "round")
                    self.assertEqual(set(told[1]), set(pairs))
                for k in range(len(pairs)):
                    self.assertEqual(self.look_at(web, pairs[:k] + pairs[k + 1:]), ("pairing",))

    def test_a_bad_one_goes_ahead_of_a_round(self):
        for name, (web, pairs) in ROUNDS.items():
            for bad in [((), ()), pairs[0], pairs[-1], pairs[0][::-1], ((77,), (77, 78))]:
                with self.subTest(name, bad=bad):
                    self.assertEqual(self.look_at(web, pairs + [bad]), ("bad", len(pairs)))
                    self.assertEqual(self.look_at(web, pairs + [bad, bad]), ("bad", len(pairs)))

    def test_no_round_of_two_pairs(self):
        """Two pieces that have two rims both would have the same points; so the second of the tuples is bad."""
        for web in [TRIANGLE, SPHERE_OF_3]:
            for one, other in combinations(plain_pairs(web), 2):
                told = self.look_at(web, [one, other])
                if is_round([one, other]):
                    self.assertEqual(told, ("bad", 1))
                else:
                    self.assertNotEqual(told[0], "round")
        self.assertEqual(judged(STRETCH, [((3,), (3, 7)), ((7,), (3, 7))]), ("bad", 1))

    def test_a_round_with_pairs_that_lead_to_it_and_from_it(self):
        web = [(0, 1), (1, 2), (2, 3), (1, 3), (3, 4), (4, 5), (2, 6)]
        pairs = [
            ((5,), (4, 5)), ((4,), (3, 4)), ((0,), (0, 1)), ((1,), (1, 2)), ((2,), (2, 3)), ((3,), (1, 3)),
            ((6,), (2, 6)),
        ]
        for seed in range(20):
            told = self.look_at(web, mixed_up(pairs, seed))
            self.assertEqual(set(told[1]), {((1,), (1, 2)), ((2,), (2, 3)), ((3,), (1, 3))})

    def test_two_rounds(self):
        pairs = ROUNDS["three stretches"][1] + [((4,), (4, 5)), ((5,), (5, 6)), ((6,), (4, 6))]
        for seed in range(10):
            told = self.look_at(HOLLOW + [(4, 5), (5, 6), (4, 6)], mixed_up(pairs, seed))
            self.assertEqual(len(told[1]), 3)

    def test_varied_rows(self):
        found = {"pairing": 0, "round": 0, "bad": 0}
        for seed, web in enumerate(some_webs()):
            row = varied_row(web, seed)
            for pairs in [row, row[::2], row[1::3], row + row[:1], row[:3] + [((), ())] + row[3:]]:
                found[self.look_at(web, pairs)[0]] += 1
        self.assertGreater(min(found.values()), 10)

    def test_no_web(self):
        for name, web in NO_WEBS.items():
            for pairs in [[], [((), ())], [((1,), (1, 2))], [(web[0], web[0])]]:
                with self.subTest(name, pairs=pairs), self.assertRaises(NoWeb):
                    judged(list(web), pairs)


class Pairing(unittest.TestCase):
    def webs(self):
        return all_webs()[::2] + webs_with_holes()

    def test_a_pairing(self):
        for web in self.webs():
            pairs = pairing(web)
            self.assertEqual(plain_kind(web, pairs), "pairing")
            self.assertEqual(judged(web, pairs), ("pairing",))

    def test_in_the_order_of_the_first_pieces(self):
        for web in self.webs():
            firsts = [pair[0] for pair in pairing(web)]
            self.assertEqual(firsts, told_in_order(firsts))

    def test_no_pair_can_be_put_to_it(self):
        for web in self.webs():
            pairs = pairing(web)
            for pair in plain_pairs(web):
                self.assertNotEqual(plain_kind(web, pairs + [pair]), "pairing")

    def test_known(self):
        self.assertEqual(pairing(EMPTY), [])
        self.assertEqual(pairing(POINT), [])
        self.assertIn(pairing(STRETCH), [[((3,), (3, 7))], [((7,), (3, 7))]])
        self.assertEqual(len(pairing(HOLLOW)), 2)
        self.assertEqual(len(pairing(TWO_HUNDRED)), 96)

    def test_kinds(self):
        for web in self.webs():
            told = pairing(web)
            self.assertEqual(told.__class__, list)
            self.assertLessEqual({(pair.__class__, len(pair)) for pair in told}, {(tuple, 2)})

    def test_no_web(self):
        for name, web in NO_WEBS.items():
            with self.subTest(name), self.assertRaises(NoWeb):
                pairing(list(web))


class LeftOver(unittest.TestCase):
    def test_known(self):
        self.assertEqual(left_over(EMPTY, []), [])
        self.assertEqual(left_over(STRETCH, []), [(3,), (7,), (3, 7)])
        self.assertEqual(left_over(STRETCH, [((7,), (3, 7))]), [(3,)])
        self.assertEqual(left_over(HOLLOW, [((3,), (1, 3)), ((2,), (2, 3))]), [(1,), (1, 2)])
        self.assertEqual(left_over(MIXED, [((1, 2), (1, 2, 3)), ((9,), (8, 9)), ((1,), (1, 3))]), [
            (2,), (3,), (4,), (7,), (8,), (2, 3), (3, 4),
        ])

    def test_all_that_stand_in_no_pair(self):
        for web, pairs in some_pairings():
            stands = {piece for pair in pairs for piece in pair}
            every = told_in_order(plain_pieces(web))
            self.assertEqual(left_over(web, pairs), [piece for piece in every if piece not in stands])

    def test_at_least_as_many_as_holes(self):
        for web, pairs in some_pairings():
            sizes = [len(piece) for piece in left_over(web, pairs)]
            for height in HEIGHTS:
                free, twisted = holes(web, height)
                self.assertGreaterEqual(sizes.count(height + 1), free + len(twisted))
                for prime in [2, 3]:
                    self.assertGreaterEqual(sizes.count(height + 1), holes_by_prime(web, height, prime))

    def test_the_balance(self):
        for web, pairs in some_pairings():
            left = sum((-1) ** len(piece) for piece in left_over(web, pairs))
            self.assertEqual(left, sum((-1) ** len(piece) for piece in plain_pieces(web)))


class ThinSeams(unittest.TestCase):
    def test_of_no_pairs(self):
        for web in all_webs():
            every = told_in_order(plain_pieces(web))
            self.assertEqual(thin_seams(web, []), [(piece, plain_seam({piece: 1})) for piece in every])

    def test_known(self):
        self.assertEqual(thin_seams(STRETCH, [((3,), (3, 7))]), [((7,), {})])
        self.assertEqual(thin_seams(HOLLOW, [((3,), (2, 3))]), [
            ((1,), {}), ((2,), {}), ((1, 2), {(1,): -1, (2,): 1}), ((1, 3), {(1,): -1, (2,): 1}),
        ])
        # Here two roads lead to one point, and their worths come to nought.
        self.assertEqual(thin_seams(HOLLOW, [((2,), (1, 2)), ((3,), (2, 3))]), [((1,), {}), ((1, 3), {})])
        self.assertEqual(thin_seams(SPHERE, [((0, 1), (0, 1, 2)), ((2,), (1, 2))]), [
            ((0,), {}), ((1,), {}), ((3,), {}), ((0, 2), {(0,): -1, (1,): 1}), ((0, 3), {(0,): -1, (3,): 1}),
            ((1, 3), {(1,): -1, (3,): 1}), ((2, 3), {(1,): -1, (3,): 1}),
            ((0, 1, 3), {(0, 2): 1, (0, 3): -1, (1, 3): 1}), ((0, 2, 3), {(0, 2): 1, (0, 3): -1, (2, 3): 1}),
            ((1, 2, 3), {(1, 3): -1, (2, 3): 1}),
        ])

    def test_along_a_line(self):
        web = [(k, k + 1) for k in range(0, 20)]
        pairs = [((k,), (k, k + 1)) for k in range(1, 20)]
        self.assertEqual(thin_seams(web, pairs), [((0,), {}), ((20,), {}), ((0, 1), {(0,): -1, (20,): 1})])
        self.assertEqual(thin_seams(web, pairs[::-1]), thin_seams(web, pairs))

    def test_twice_round(self):
        """Two roads lead from the one triangle that is left over to the one stretch, with one worth."""
        for web, number in [(PLANE, 2), (THREEFOLD, 3)]:
            told = thin_seams(web, pairing(web))
            self.assertEqual([len(piece) for piece, chain in told], [1, 2, 3])
            self.assertEqual([abs(weight) for weight in told[2][1].values()], [number])

    def test_by_all_roads(self):
        longest = 0
        alike = 0
        noughts = 0
        for web, pairs in some_pairings():
            stands = {piece for pair in pairs for piece in pair}
            told = thin_seams(web, pairs)
            self.assertEqual([piece for piece, chain in told], left_over(web, pairs))
            for piece, chain in told:
                self.assertEqual(chain, plain_thin_seam(piece, pairs))
                roads = [road for rim in plain_rims(piece) for road in roads_from(rim, pairs)]
                longest = max(longest, max((len(road) - 1 for road in roads), default=0))
                ends = [road[-1] for road in roads if road[-1] not in stands]
                alike += len(ends) - len(set(ends))
                noughts += len(set(ends)) - len(chain)
        self.assertGreater(longest, 3)
        self.assertGreater(alike, 20)
        self.assertGreater(noughts, 20)

    def test_chains_of_pieces_left_over(self):
        for web, pairs in some_pairings():
            left = left_over(web, pairs)
            for piece, chain in thin_seams(web, pairs):
                self.assertIs(is_chain(web, chain), True)
                self.assertLessEqual(set(chain), set(left))
                self.assertLessEqual({len(rim) for rim in chain}, {len(piece) - 1})

    def test_thin_seams_of_thin_seams(self):
        for web, pairs in some_pairings():
            told = dict(thin_seams(web, pairs))
            for chain in told.values():
                self.assertEqual(put_together([(weight, told[piece]) for piece, weight in chain.items()]), {})

    def test_the_holes_by_steps(self):
        """As many are free as pieces are left over, less what the thin seams of the heights here and above are."""
        found = 0
        for name, web, holes_told in HOLES:
            for pairs in [[], pairing(web), pushes(web)[0], pairing(web)[::2], pairing(web)[1::3]]:
                told = thin_seams(web, pairs)
                tables = [thin_table(told, height) for height in range(6)]
                if max(len(table) for table in tables) > 40:
                    continue
                found += 1
                for height in HEIGHTS:
                    here, above = [steps_of(tables[high]) for high in [height, height + 1]]
                    free = len(tables[height]) - len(here) - len(above)
                    with self.subTest(name, height=height, pairs=pairs):
                        self.assertEqual((free, [step for step in above if step > 1]), holes_told[height])
        self.assertGreater(found, 70)

    def test_the_holes_by_primes(self):
        for web, pairs in some_pairings():
            told = thin_seams(web, pairs)
            tables = [thin_table(told, height) for height in range(6)]
            for prime in [2, 3, 97]:
                ranks = [rank_by_prime(table, prime) for table in tables]
                for height in HEIGHTS:
                    count = len(tables[height]) - ranks[height] - ranks[height + 1]
                    self.assertEqual(count, holes_by_prime(web, height, prime))

    def test_by_the_pairs_and_not_by_their_order(self):
        for web in webs_with_holes():
            pairs = pairing(web)
            told = thin_seams(web, pairs)
            self.assertEqual(thin_seams(web, pairs[::-1]), told)
            self.assertEqual(thin_seams(web[::-1], mixed_up(pairs, 3)), told)

    def test_kinds(self):
        told = thin_seams(PLANE, pairing(PLANE))
        self.assertEqual([list, tuple, dict], [told.__class__, told[0].__class__, told[0][1].__class__])


class Refusals(unittest.TestCase):
    def test_no_web_goes_ahead(self):
        for name, web in NO_WEBS.items():
            for pairs in [[], [((), ())], [((1,), (1, 2))], [(web[0], web[0])]]:
                for function in [left_over, thin_seams]:
                    with self.subTest(name, pairs=pairs), self.assertRaises(NoWeb):
                        function(list(web), pairs)

    def test_rounds_are_no_pairings(self):
        for name, (web, pairs) in ROUNDS.items():
            for function in [left_over, thin_seams]:
                with self.subTest(name), self.assertRaises(NoPush):
                    function(web, pairs)

    def test_tuples_that_are_no_pairs(self):
        good = [((8,), (8, 9)), ((1, 2), (1, 2, 3))]
        for pair in NO_PAIRS + [((8,), (8, 9)), ((9,), (8, 9)), ((1, 3), (1, 2, 3))]:
            for function in [left_over, thin_seams]:
                for pairs in [good + [pair], good[:1] + [pair] + good[1:], [pair] + good]:
                    with self.subTest(pair=pair), self.assertRaises(NoPush):
                        function(MIXED, pairs)

    def test_each_row_that_is_none(self):
        for seed, web in enumerate(some_webs()):
            row = varied_row(web, seed)
            if has_round(row):
                for function in [left_over, thin_seams]:
                    with self.assertRaises(NoPush):
                        function(web, row)


class OwnPairs(Owned, unittest.TestCase):
    def cases(self):
        for web in [EMPTY, POINT, STRETCH, TRIANGLE, MIXED, HOLLOW, SPHERE, PLANE, HUNG, TORUS]:
            yield pairing, (list(web),)
            for pairs in [[], pairing(web), pairing(web)[:3], pairing(web)[1::2]]:
                yield judged, (list(web), list(pairs))
                yield left_over, (list(web), list(pairs))
                yield thin_seams, (list(web), list(pairs))
        yield thin_seams, (list(NET), pairing(NET))
        for web, pairs in ROUNDS.values():
            yield judged, (list(web), list(pairs))
            yield judged, (list(web), pairs + pairs[:1])

    def test_a_told_round_is_not_the_list_that_was_handed_in(self):
        for web, pairs in ROUNDS.values():
            self.assertIsNot(judged(web, pairs)[1], pairs)

    def test_refused_lists_are_the_same_behind(self):
        for web, pairs in ROUNDS.values():
            for function in [left_over, thin_seams]:
                handed = list(pairs)
                with self.assertRaises(NoPush):
                    function(web, handed)
                self.assertEqual(handed, pairs)


if __name__ == "__main__":
    unittest.main()
