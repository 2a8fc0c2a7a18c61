import unittest
from itertools import permutations, product

from seamwright.bounding import is_alike
from seamwright.chains import is_chain, plus, seam, times
from seamwright.errors import NoChain, NoMap, NoWeb
from seamwright.holes import rounds
from seamwright.maps import carried, is_map, on_holes
from seamwright.prisms import beside, prism

from map_samples import (
    FAR, GOOD, NO_MAPS, TWICE, identity, parity, plain_carried, plain_is_map, points,
)
from owned import Owned
from samples import (
    EMPTY, FULL, HOLLOW, MIXED, NO_CHAINS, NO_WEBS, PLANE, POINT, RING_OF_SIX, SPHERE, STRETCH, TORUS, TRIANGLE,
    all_webs, plain_pieces, plain_seam, put_together, some_webs, varied_chains, varied_numbers,
)

BALL = [(0, 1, 2, 3, 4)]
# From MIXED to TRIANGLE, too.
GOOD_TOO = {1: 3, 2: 1, 3: 1, 4: 2, 7: 2, 8: 1, 9: 3}


def plain_beside(web, other, one, two):
    under = [{one[point] for point in piece} | {two[point] for point in piece} for piece in plain_pieces(web)]
    return all(frozenset(some) in plain_pieces(other) for some in under)


def plain_prism(one, two, chain):
    """Place by place, the points in the order that is told brought to rising order by exchanges."""
    terms = []
    for piece, weight in chain.items():
        for place in range(len(piece)):
            row = [one[point] for point in piece[:place + 1]] + [two[point] for point in piece[place:]]
            if len(set(row)) == len(row):
                terms.append(((-1) ** (place + parity(row)) * weight, {tuple(sorted(row)): 1}))
    return put_together(terms)


def web_between(web, one, two):
    """The web of the points of both images, or nothing where it would be none."""
    found = {tuple(sorted({one[point] for point in piece} | {two[point] for point in piece})) for piece in web}
    if len(found) > 20 or any(len(piece) > 5 for piece in found) or len(plain_pieces(found)) > 200:
        return None
    return sorted(found)


def varied_pairs():
    """Tuples of a web, another one, and two maps between them that lie side by side."""
    for seed, web in enumerate(some_webs()):
        every = points(web)
        for turn, reach in enumerate([60, len(every), 5, 3, 2, 1]):
            one = dict(zip(every, varied_numbers(len(every), 0, reach - 1, 11 * seed + turn)))
            two = dict(zip(every, varied_numbers(len(every), 0, reach - 1, 11 * seed + turn + 5000)))
            # Two maps that are unlike at some points alone leave room for greater pieces.
            near = {point: two[point] if k % 3 == turn % 3 else one[point] for k, point in enumerate(every)}
            for other in [two, near]:
                between = web_between(web, one, other)
                if between is not None:
                    yield web, between, one, other


class Beside(unittest.TestCase):
    def look_at(self, web, other, one, two):
        told = beside(web, other, one, two)
        self.assertIs(told, plain_beside(web, other, one, two))
        self.assertIs(beside(web, other, two, one), told)
        return told

    def test_a_map_and_itself(self):
        for web in all_webs():
            self.assertIs(beside(web, web, identity(web), identity(web)), True)
        self.assertIs(beside(RING_OF_SIX, HOLLOW, TWICE, dict(TWICE)), True)
        self.assertIs(beside(MIXED, TRIANGLE, GOOD, GOOD), True)

    def test_the_web_without_pieces(self):
        for other in [EMPTY, POINT, TORUS]:
            self.assertIs(beside(EMPTY, other, {}, {}), True)

    def test_side_by_side(self):
        for web, other, one, two in [
            (POINT, STRETCH, {5: 3}, {5: 7}), (STRETCH, TRIANGLE, {3: 1, 7: 2}, {3: 2, 7: 3}),
            (HOLLOW, TRIANGLE, {1: 1, 2: 2, 3: 3}, {1: 2, 2: 3, 3: 1}), (MIXED, TRIANGLE, GOOD, GOOD_TOO),
            (SPHERE, FULL, {0: 0, 1: 1, 2: 50, 3: 98}, {0: 1, 1: 50, 2: 98, 3: 99}),
        ]:
            with self.subTest(one=one, two=two):
                self.assertIs(self.look_at(web, other, one, two), True)

    def test_not_side_by_side(self):
        for web, other, one, two in [
            (POINT, [(3,), (7,)], {5: 3}, {5: 7}), (POINT, MIXED, {5: 1}, {5: 4}),
            (HOLLOW, HOLLOW, {1: 1, 2: 2, 3: 3}, {1: 2, 2: 3, 3: 1}), (STRETCH, HOLLOW, {3: 1, 7: 2}, {3: 2, 7: 3}),
            (RING_OF_SIX, RING_OF_SIX, identity(RING_OF_SIX), {k: (k + 1) % 6 for k in range(6)}),
        ]:
            with self.subTest(one=one, two=two):
                self.assertIs(self.look_at(web, other, one, two), False)

    def test_each_point_by_itself_is_not_enough(self):
        """Of each point both images are joined, but not of the stretch."""
        self.assertIs(self.look_at(STRETCH, HOLLOW, {3: 1, 7: 2}, {3: 2, 7: 3}), False)
        self.assertIs(self.look_at(STRETCH, TRIANGLE, {3: 1, 7: 2}, {3: 2, 7: 3}), True)

    def test_all_maps_between_small_webs(self):
        found = [0, 0]
        for web, other in [(STRETCH, HOLLOW), (HOLLOW, SPHERE), (STRETCH, MIXED), (TRIANGLE, HOLLOW)]:
            dicts = [dict(zip(points(web), under)) for under in product(points(other), repeat=len(points(web)))]
            good = [names for names in dicts if plain_is_map(web, other, names)]
            for one, two in product(good[::2], good[::3]):
                found[self.look_at(web, other, one, two)] += 1
        self.assertGreater(min(found), 20)

    def test_varied_maps(self):
        for web, other, one, two in varied_pairs():
            self.assertIs(is_map(web, other, one), True)
            self.assertIs(self.look_at(web, other, one, two), True)


class Prism(unittest.TestCase):
    def look_at(self, web, other, one, two, chain):
        """The chain that the document tells; and its seam, with the prism of the seam, leads from the one to the two."""
        told = prism(web, other, one, two, chain)
        self.assertEqual(told, plain_prism(one, two, chain))
        self.assertIs(is_chain(other, told), True)
        self.assertLessEqual({len(piece) for piece in told}, {len(piece) + 1 for piece in chain})
        together = plus(other, seam(other, told), prism(web, other, one, two, plain_seam(chain)))
        less = times(other, plain_carried(one, chain), -1)
        self.assertEqual(together, plus(other, plain_carried(two, chain), less))
        return told

    def test_known(self):
        for web, other, one, two, chain, told in [
            (POINT, STRETCH, {5: 3}, {5: 7}, {(5,): 4}, {(3, 7): 4}),
            (POINT, STRETCH, {5: 7}, {5: 3}, {(5,): 4}, {(3, 7): -4}),
            (STRETCH, BALL, {3: 0, 7: 1}, {3: 2, 7: 3}, {(3, 7): 5}, {(0, 2, 3): 5, (0, 1, 3): -5}),
            (STRETCH, BALL, {3: 2, 7: 3}, {3: 0, 7: 1}, {(3, 7): 5}, {(0, 1, 2): 5, (1, 2, 3): -5}),
            (STRETCH, BALL, {3: 0, 7: 2}, {3: 1, 7: 3}, {(3, 7): 1}, {(0, 1, 3): 1, (0, 2, 3): -1}),
            (STRETCH, BALL, {3: 0, 7: 1}, {3: 1, 7: 2}, {(3, 7): 1}, {}),
            (STRETCH, BALL, {3: 0, 7: 1}, {3: 0, 7: 2}, {(3, 7): 1}, {(0, 1, 2): -1}),
            (STRETCH, BALL, {3: 0, 7: 2}, {3: 1, 7: 2}, {(3, 7): 1}, {(0, 1, 2): 1}),
            (TRIANGLE, BALL, {1: 0, 2: 1, 3: 2}, {1: 0, 2: 1, 3: 3}, {(1, 2, 3): 1}, {(0, 1, 2, 3): 1}),
            (TRIANGLE, BALL, {1: 0, 2: 1, 3: 3}, {1: 0, 2: 2, 3: 3}, {(1, 2, 3): 1}, {(0, 1, 2, 3): -1}),
            (TRIANGLE, BALL, {1: 0, 2: 2, 3: 3}, {1: 1, 2: 2, 3: 3}, {(1, 2, 3): 1}, {(0, 1, 2, 3): 1}),
            (STRETCH, BALL, {3: 0, 7: 1}, {3: 2, 7: 3}, {(3,): 1, (7,): -6}, {(0, 2): 1, (1, 3): -6}),
            (STRETCH, STRETCH, {3: 3, 7: 7}, {3: 7, 7: 3}, {(3,): 2, (7,): 2}, {}),
        ]:
            with self.subTest(one=one, two=two):
                self.assertEqual(self.look_at(web, other, one, two, chain), told)

    def test_the_nought_chain(self):
        for web, other, one, two in varied_pairs():
            self.assertEqual(prism(web, other, one, two, {}), {})

    def test_a_map_and_itself(self):
        for web in some_webs():
            for size in range(1, 6):
                for chain in varied_chains(web, size):
                    self.assertEqual(self.look_at(web, web, identity(web), identity(web), chain), {})

    def test_points_that_fall_together(self):
        for one, two in [
            ({3: 5, 7: 5}, {3: 5, 7: 5}), ({3: 0, 7: 0}, {3: 1, 7: 1}), ({3: 0, 7: 1}, {3: 1, 7: 1}),
            ({3: 0, 7: 1}, {3: 1, 7: 0}), ({3: 0, 7: 0}, {3: 0, 7: 1}),
        ]:
            other = POINT if 5 in one.values() else BALL
            with self.subTest(one=one, two=two):
                self.assertEqual(self.look_at(STRETCH, other, one, two, {(3, 7): 1}), {})

    def test_turned_about(self):
        """Rows of points in each order: an odd number of pairs that stand about takes the weight from nought."""
        for size in range(1, 4):
            web = [tuple(range(10, 10 + size))]
            for row in permutations(range(size + 1)):
                # At the first place alone no point stands twice: the first map leads the points behind to the first.
                one = {10 + k: row[0] for k in range(size)}
                two = {10 + k: row[k + 1] for k in range(size)}
                falls = sum(row[k] > row[j] for j in range(size + 1) for k in range(j))
                told = self.look_at(web, BALL, one, two, {web[0]: 3})
                self.assertEqual(told, {tuple(sorted(row)): 3 if falls % 2 == 0 else -3})

    def test_each_place(self):
        """Where just one place has no point twice, by turns with the weight and with it taken from nought."""
        web = [(10, 11, 12, 13)]
        for place, weight in enumerate([7, -7, 7, -7]):
            first = {10 + k: k if k <= place else place for k in range(4)}
            second = {10 + k: k + 1 if k >= place else place + 1 for k in range(4)}
            self.assertEqual(self.look_at(web, BALL, first, second, {web[0]: 7}), {(0, 1, 2, 3, 4): weight})

    def test_pieces_of_five_points_come_to_nought(self):
        turn = {0: 1, 1: 2, 2: 3, 3: 4, 4: 0}
        for one, two in [(identity(BALL), turn), (turn, identity(BALL)), (turn, {k: 0 for k in range(5)})]:
            self.assertEqual(self.look_at(BALL, BALL, one, two, {BALL[0]: FAR}), {})

    def test_of_each_height(self):
        found = {}
        for web, other, one, two in varied_pairs():
            for size in range(1, 6):
                for chain in varied_chains(web, size, len(one)):
                    told = self.look_at(web, other, one, two, chain)
                    found[size] = found.get(size, 0) + (len(told) > 0)
        self.assertEqual(found[5], 0)
        for size in range(1, 5):
            self.assertGreater(found[size], 10, size)

    def test_all_maps_of_a_triangle_into_a_ball(self):
        web = [(0, 1, 2)]
        for under in product(range(4), repeat=6):
            one = dict(zip(range(3), under[:3]))
            two = dict(zip(range(3), under[3:]))
            if sum(under) % 5 == 0:
                self.look_at(web, BALL, one, two, {(0, 1, 2): 1})
                self.look_at(web, BALL, one, two, {(0, 1): 2, (0, 2): -3, (1, 2): FAR})

    def test_far_weights(self):
        self.assertEqual(prism(POINT, STRETCH, {5: 3}, {5: 7}, {(5,): -FAR}), {(3, 7): -FAR})
        names = [{3: 0, 7: 1}, {3: 1, 7: 0}]
        self.assertEqual(prism(STRETCH, BALL, *names, {(3,): FAR, (7,): -FAR}), {(0, 1): 2 * FAR})

    def test_maps_side_by_side_do_the_same_with_holes(self):
        for web, other, one, two in list(varied_pairs())[::4]:
            for height in range(3):
                self.assertEqual(on_holes(web, other, one, height), on_holes(web, other, two, height))
                for chain in rounds(web, height)[0]:
                    carried_by_both = [carried(web, other, names, chain) for names in (one, two)]
                    self.assertIs(is_alike(other, *carried_by_both), True)


class Refusals(unittest.TestCase):
    def test_no_web_of_the_first_then_of_the_second(self):
        for name, web in NO_WEBS.items():
            for one, other in [(web, POINT), (MIXED, web), (web, web), (EMPTY, web)]:
                for names in [{}, {1: 1}, {-1: 100}]:
                    with self.subTest(name, names=names), self.assertRaises(NoWeb):
                        beside(list(one), list(other), names, names)
                    with self.subTest(name, names=names), self.assertRaises(NoWeb):
                        prism(list(one), list(other), names, names, {(): 0})

    def test_no_map_of_the_one_and_of_the_two(self):
        for name, names in NO_MAPS.items():
            for one, two in [(names, GOOD), (GOOD, names), (names, names)]:
                with self.subTest(name), self.assertRaises(NoMap):
                    beside(MIXED, TRIANGLE, one, two)
                for chain in [{}, {(1, 2): 1}, {(1, 2): 0}, {(): 1}, {(77,): 1}]:
                    with self.subTest(name, chain=chain), self.assertRaises(NoMap):
                        prism(MIXED, TRIANGLE, one, two, chain)

    def test_no_map_where_they_do_not_lie_side_by_side(self):
        turn = {1: 2, 2: 3, 3: 1}
        for chain in [{}, {(1,): 1}, {(1, 2): 1}, {(1, 2): 0}, {(1, 2, 3): 1}, {(): 1}]:
            with self.subTest(chain=chain), self.assertRaises(NoMap):
                prism(HOLLOW, HOLLOW, identity(HOLLOW), turn, chain)
        with self.assertRaises(NoMap):
            prism(POINT, [(3,), (7,)], {5: 3}, {5: 7}, {(5,): 1})

    def test_no_chain(self):
        for name, chain in NO_CHAINS.items():
            for one, two in [(GOOD, GOOD), (GOOD, GOOD_TOO), (GOOD_TOO, GOOD)]:
                with self.subTest(name), self.assertRaises(NoChain):
                    prism(MIXED, TRIANGLE, one, two, chain)
        # A chain of the other web alone is none of the web.
        with self.assertRaises(NoChain):
            prism(POINT, STRETCH, {5: 3}, {5: 7}, {(3,): 1})


class OwnPrisms(Owned, unittest.TestCase):
    def cases(self):
        for web, other, one, two in [
            (EMPTY, POINT, {}, {}), (MIXED, TRIANGLE, GOOD, GOOD_TOO), (PLANE, PLANE, identity(PLANE), identity(PLANE)),
            (HOLLOW, TRIANGLE, identity(HOLLOW), {1: 2, 2: 3, 3: 1}), (POINT, STRETCH, {5: 3}, {5: 7}),
        ]:
            yield beside, (list(web), list(other), dict(one), dict(two))
            for size in range(1, 4):
                for chain in [{}] + varied_chains(web, size):
                    yield prism, (list(web), list(other), dict(one), dict(two), chain)

    def test_one_dict_handed_in_twice(self):
        names = dict(GOOD)
        self.assertEqual(prism(MIXED, TRIANGLE, names, names, {(1, 2): 1}), {})
        self.assertEqual(names, GOOD)

    def test_refused_dicts_are_the_same_behind(self):
        for names, chain in [({1: 100}, {(1, 2): 1}), (GOOD, {(1, 2): 0, (): 4})]:
            handed = (list(MIXED), list(TRIANGLE), dict(GOOD), dict(names), dict(chain))
            with self.assertRaises((NoMap, NoChain)):
                prism(*handed)
            self.assertEqual(repr(handed), repr((MIXED, TRIANGLE, GOOD, names, chain)))


if __name__ == "__main__":
    unittest.main()
