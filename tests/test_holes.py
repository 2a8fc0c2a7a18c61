import unittest

from seamwright.bounding import bounds, shows
from seamwright.chains import is_chain, is_closed
from seamwright.errors import NoChain, NoNumber, NotClosed, NoWeb
from seamwright.holes import holes, rounds, told_by
from seamwright.webs import greatest, shares

from owned import Owned
from samples import (
    BOTTLE, EMPTY, FULL, HOLES, HOLLOW, MIXED, NO_CHAINS, NO_WEBS, PLANE, PLANE_FURTHER_UP, POINT, SPHERE, THREEFOLD,
    TORUS, TWO_PLANES, TWO_RINGS, all_webs, holes_by_prime, pieces_of_height, plain_pieces, plain_seam, put_together,
    some_webs, varied_numbers, webs_with_holes,
)

FAR = 10 ** 30 - 1
HEIGHTS = range(5)
NO_HEIGHTS = [-1, 5, 6, -5, 100, FAR, -FAR]


def a_seam(web, height, reach, seed):
    above = pieces_of_height(web, height + 1)
    weights = varied_numbers(len(above), -reach, reach, seed)
    return plain_seam({piece: weight for piece, weight in zip(above, weights) if weight})


class Holes(unittest.TestCase):
    def test_known(self):
        for name, web, told in HOLES:
            for height in HEIGHTS:
                with self.subTest(name, height=height):
                    self.assertEqual(holes(web, height), told[height])

    def test_kinds(self):
        for name, web, told in HOLES:
            for height in HEIGHTS:
                answer = holes(web, height)
                self.assertEqual([tuple, int, list], [value.__class__ for value in (answer, *answer)])

    def test_by_primes(self):
        """By a prime each twisted hole that it divides counts twice: there, and one height more."""
        for web in some_webs():
            told = [(0, [])] + [holes(web, height) for height in HEIGHTS]
            for prime in [2, 3, 5, 97]:
                for height in HEIGHTS:
                    divided = [number for number in told[height][1] + told[height + 1][1] if number % prime == 0]
                    count = told[height + 1][0] + len(divided)
                    self.assertEqual(holes_by_prime(web, height, prime), count)

    def test_free_ones_of_height_nought(self):
        for web in all_webs():
            self.assertEqual(holes(web, 0), (len(shares(web)), []))

    def test_the_balance(self):
        for web in some_webs():
            balance = sum((-1) ** (len(piece) + 1) for piece in plain_pieces(web))
            self.assertEqual(sum((-1) ** height * holes(web, height)[0] for height in HEIGHTS), balance)

    def test_twisted_ones_divide_the_next(self):
        for web in some_webs():
            for height in HEIGHTS:
                twisted = holes(web, height)[1]
                self.assertTrue(all(number > 1 for number in twisted))
                self.assertTrue(all(high % low == 0 for low, high in zip(twisted, twisted[1:])))

    def test_parts_handed_in_too(self):
        self.assertEqual(holes(SPHERE + [(0, 1), (2,)], 2), (1, []))
        self.assertEqual(holes(HOLLOW + [(1, 2, 3)], 1), (0, []))

    def test_refusals_in_order(self):
        for name, web in NO_WEBS.items():
            for height in [0, 4, -1, 5]:
                for function in [holes, rounds]:
                    with self.subTest(name, height=height), self.assertRaises(NoWeb):
                        function(list(web), height)
        for web in [EMPTY, POINT, TORUS]:
            for height in NO_HEIGHTS:
                for function in [holes, rounds]:
                    with self.subTest(height=height), self.assertRaises(NoNumber):
                        function(web, height)


class Rounds(unittest.TestCase):
    def test_so_many_as_the_holes_tell(self):
        for web in some_webs():
            for height in HEIGHTS:
                free, twisted = rounds(web, height)
                self.assertEqual(holes(web, height), (len(free), [number for chain, number, filling in twisted]))

    def test_closed_chains_of_the_height(self):
        for web in some_webs():
            for height in HEIGHTS:
                free, twisted = rounds(web, height)
                for chain in free + [chain for chain, number, filling in twisted]:
                    self.assertIs(is_chain(web, chain), True)
                    self.assertEqual({len(piece) for piece in chain}, {height + 1})
                    self.assertEqual(plain_seam(chain), {})

    def test_fillings(self):
        found = 0
        for web in some_webs():
            for height in HEIGHTS:
                for chain, number, filling in rounds(web, height)[1]:
                    self.assertIs(is_chain(web, filling), True)
                    self.assertEqual({len(piece) for piece in filling}, {height + 2})
                    self.assertEqual(plain_seam(filling), put_together([(number, chain)]))
                    found += 1
        self.assertGreaterEqual(found, 6)

    def test_kinds(self):
        free, twisted = rounds(BOTTLE, 1)
        self.assertEqual([list, dict], [free.__class__, free[0].__class__])
        self.assertEqual([list, tuple], [twisted.__class__, twisted[0].__class__])
        self.assertEqual([dict, int, dict], [value.__class__ for value in twisted[0]])
        self.assertEqual(tuple, rounds(BOTTLE, 1).__class__)
        self.assertEqual(rounds(EMPTY, 0), ([], []))
        self.assertEqual(rounds(POINT, 3), ([], []))

    def test_known(self):
        self.assertIn(rounds(POINT, 0), [([{(5,): 1}], []), ([{(5,): -1}], [])])
        ring = {(1, 2): 1, (2, 3): 1, (1, 3): -1}
        back = {(1, 2): -1, (2, 3): -1, (1, 3): 1}
        self.assertIn(rounds(HOLLOW, 1), [([ring], []), ([back], [])])

    def test_told_the_same_each_time(self):
        for web in some_webs():
            for height in HEIGHTS:
                told = rounds(web, height)
                shape = repr(told)
                self.assertEqual(repr(rounds(list(web), height)), shape)
                # The same web, told by another list.
                self.assertEqual(repr(rounds(list(reversed(web)), height)), shape)
                if len(greatest(web)) <= 20:
                    self.assertEqual(repr(rounds(greatest(web), height)), shape)

    def test_no_sum_of_rounds_bounds(self):
        """The free ones any number of times, and each twisted one less often than its number; all nought alone."""
        for web in webs_with_holes():
            for height in HEIGHTS:
                free, twisted = rounds(web, height)
                for seed in range(6):
                    often = varied_numbers(len(free), -2, 2, seed)
                    turns = [1 + (seed + k) % (number - 1) if seed % 2 else 0 for k, (chain, number, filling)
                             in enumerate(twisted)]
                    chain = put_together(list(zip(often, free)) + [(k, row[0]) for k, row in zip(turns, twisted)])
                    told = bounds(web, chain)
                    if any(often) or any(turns):
                        self.assertEqual(told[0], "shows")
                        self.assertIs(shows(web, chain, told[1], told[2]), True)
                    else:
                        self.assertEqual(told, ("fills", {}))


class ToldBy(unittest.TestCase):
    def look_at(self, web, height, chain):
        """Told are numbers such that the rounds so often and the seam of the filling are the chain."""
        free, twisted = rounds(web, height)
        told = told_by(web, height, chain)
        self.assertEqual([tuple, list, list, dict], [value.__class__ for value in (told, *told)])
        self.assertEqual((len(told[0]), len(told[1])), (len(free), len(twisted)))
        for often, (round_chain, number, filling) in zip(told[1], twisted):
            self.assertTrue(0 <= often < number)
        self.assertIs(is_chain(web, told[2]), True)
        self.assertLessEqual({len(piece) for piece in told[2]}, {height + 2})
        terms = list(zip(told[0], free)) + [(often, row[0]) for often, row in zip(told[1], twisted)]
        self.assertEqual(put_together(terms + [(1, plain_seam(told[2]))]), chain)
        return told

    def test_sums_of_rounds_and_seams(self):
        for seed, web in enumerate(some_webs()):
            for height in HEIGHTS:
                free, twisted = rounds(web, height)
                for turn, reach in enumerate([1, 5, 10 ** 11]):
                    often = varied_numbers(len(free), -reach, reach, seed + turn)
                    turns = varied_numbers(len(twisted), -reach, reach, seed + turn + 1)
                    terms = list(zip(often, free)) + [(k, row[0]) for k, row in zip(turns, twisted)]
                    chain = put_together(terms + [(1, a_seam(web, height, reach, turn))])
                    told = self.look_at(web, height, chain)
                    self.assertEqual(told[0], often)
                    self.assertEqual(told[1], [k % row[1] for k, row in zip(turns, twisted)])

    def test_the_rounds_themselves(self):
        for web in webs_with_holes():
            for height in HEIGHTS:
                free, twisted = rounds(web, height)
                every = free + [row[0] for row in twisted]
                for place, chain in enumerate(every):
                    told = self.look_at(web, height, chain)
                    self.assertEqual(told[0] + told[1], [int(place == k) for k in range(len(every))])

    def test_a_twisted_round_many_times(self):
        for web, height, number in [(PLANE, 1, 2), (PLANE_FURTHER_UP, 2, 2), (THREEFOLD, 1, 3)]:
            chain = rounds(web, height)[1][0][0]
            for often in [0, 1, 2, 3, 4, 5, -1, -2, -3, FAR]:
                told = self.look_at(web, height, put_together([(often, chain)]))
                self.assertEqual(told[:2], ([], [often % number]))

    def test_the_nought_chain(self):
        for web in some_webs():
            for height in HEIGHTS:
                count, twisted = holes(web, height)
                told = told_by(web, height, {})
                self.assertEqual(told[:2], ([0] * count, [0] * len(twisted)))
                self.assertEqual(plain_seam(told[2]), {})

    def test_points(self):
        told = self.look_at(MIXED, 0, {(1,): 3, (4,): -1, (7,): 5, (9,): FAR})
        self.assertEqual(sorted(abs(often) for often in told[0]), [2, 5, FAR])

    def test_rings(self):
        one = {(0, 1): 1, (1, 2): 1, (0, 2): -1}
        other = {(0, 3): 1, (3, 4): 1, (0, 4): -1}
        for often, turns in [(1, 0), (0, 1), (2, -3), (FAR, 1)]:
            told = self.look_at(TWO_RINGS, 1, put_together([(often, one), (turns, other)]))
            self.assertEqual(told[2], {})
            self.assertNotEqual(told[0], [0, 0])

    def test_the_same_each_time(self):
        for web in [TORUS, BOTTLE, TWO_PLANES]:
            chain = put_together([(3, row) for row in rounds(web, 1)[0]] + [(1, a_seam(web, 1, 5, 1))])
            self.assertEqual(told_by(web, 1, chain), told_by(list(reversed(web)), 1, dict(chain)))

    def test_no_web_goes_ahead(self):
        for name, web in NO_WEBS.items():
            for height in [0, -1, 5]:
                for chain in [{}, {(1,): 0}, {web[0]: 1}]:
                    with self.subTest(name, height=height, chain=chain), self.assertRaises(NoWeb):
                        told_by(list(web), height, chain)

    def test_no_number_goes_ahead_of_no_chain(self):
        for height in NO_HEIGHTS:
            for chain in [{}, {(1,): 1}, {(1, 2): 1}] + list(NO_CHAINS.values()):
                with self.subTest(height=height, chain=chain), self.assertRaises(NoNumber):
                    told_by(MIXED, height, chain)

    def test_no_chain(self):
        for name, chain in NO_CHAINS.items():
            for height in HEIGHTS:
                with self.subTest(name, height=height), self.assertRaises(NoChain):
                    told_by(MIXED, height, chain)

    def test_chains_of_another_height(self):
        piece = FULL[0]
        for size in range(1, 6):
            chain = {piece[:size]: 1}
            closed = plain_seam({piece[:size + 1]: 1}) if size < 5 else {}
            for height in HEIGHTS:
                if height != size - 1:
                    with self.subTest(size=size, height=height), self.assertRaises(NoChain):
                        told_by(FULL, height, chain)
                    if closed:
                        with self.subTest(size=size, height=height), self.assertRaises(NoChain):
                            told_by(FULL, height, closed)

    def test_not_closed(self):
        for web, chain in [
            (HOLLOW, {(1, 2): 1}), (HOLLOW, {(1, 2): 1, (2, 3): 1, (1, 3): 1}), (SPHERE, {(0, 1, 2): 1}),
            (FULL, {FULL[0]: -3}), (PLANE, {piece: 1 for piece in PLANE}), (FULL, {(0, 1, 50, 98): 1}),
        ]:
            self.assertIs(is_closed(web, chain), False)
            height = len(list(chain)[0]) - 1
            with self.subTest(chain=chain), self.assertRaises(NotClosed):
                told_by(web, height, chain)


class OwnRounds(Owned, unittest.TestCase):
    def cases(self):
        for web in [EMPTY, POINT, HOLLOW, SPHERE, BOTTLE, TWO_PLANES, THREEFOLD]:
            for height in HEIGHTS:
                yield holes, (list(web), height)
                yield rounds, (list(web), height)
                yield told_by, (list(web), height, {})
        for web in [BOTTLE, TWO_PLANES, THREEFOLD]:
            free, twisted = rounds(web, 1)
            for chain in free + [row[0] for row in twisted]:
                yield told_by, (list(web), 1, chain)
            yield told_by, (list(web), 1, a_seam(web, 1, 3, 2))

    def test_refused_dicts_are_the_same_behind(self):
        for name, chain in NO_CHAINS.items():
            told = dict(chain)
            with self.subTest(name), self.assertRaises(NoChain):
                told_by(MIXED, 1, told)
            self.assertEqual(repr(told), repr(chain))


if __name__ == "__main__":
    unittest.main()
