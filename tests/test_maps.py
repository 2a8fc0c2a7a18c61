import unittest
from itertools import permutations, product

from seamwright.bounding import is_alike
from seamwright.chains import is_chain, seam
from seamwright.errors import NoChain, NoMap, NoNumber, NoWeb
from seamwright.holes import holes, rounds, told_by
from seamwright.maps import behind, carried, image, is_map, on_holes
from seamwright.webs import greatest

from map_samples import (
    FAR, GOOD, NO_MAPS, TWICE, identity, led, plain_carried, plain_is_map, points, varied_maps,
)
from owned import Owned
from samples import (
    BOTTLE, EMPTY, FULL, HOLES, HOLLOW, MIXED, NO_CHAINS, NO_WEBS, PLANE, POINT, RING_OF_SIX, SPHERE, SPHERE_OF_3,
    STRETCH, THREEFOLD, TORUS, TRIANGLE, TWENTY_POINTS, TWO_PLANES, TWO_RINGS, all_webs, plain_greatest, plain_pieces,
    plain_seam, put_together, varied_chains, varied_numbers,
)

HEIGHTS = range(5)
NO_HEIGHTS = [-1, 5, 6, -5, 100]


class IsMap(unittest.TestCase):
    def look_at(self, web, other, names):
        told = is_map(web, other, names)
        self.assertIs(told, plain_is_map(web, other, names))
        return told

    def test_each_web_to_itself(self):
        for web in all_webs():
            self.assertIs(is_map(web, web, identity(web)), True)
            self.assertIs(is_map(web, list(reversed(web)), dict(reversed(identity(web).items()))), True)

    def test_the_web_without_pieces(self):
        for other in [EMPTY, POINT, TORUS]:
            self.assertIs(is_map(EMPTY, other, {}), True)
            for names in [{0: 0}, {5: 5}, {-1: 5}]:
                self.assertIs(is_map(EMPTY, other, names), False)
        for web in [POINT, STRETCH, TORUS]:
            for names in [{}, identity(web)]:
                self.assertIs(is_map(web, EMPTY, names), False)

    def test_known(self):
        for web, other, names in [
            (RING_OF_SIX, HOLLOW, TWICE), (MIXED, TRIANGLE, GOOD), (MIXED, POINT, {point: 5 for point in GOOD}),
            (POINT, STRETCH, {5: 7}), (STRETCH, STRETCH, {3: 7, 7: 3}), (HOLLOW, TRIANGLE, identity(HOLLOW)),
            (TRIANGLE, HOLLOW, {1: 1, 2: 2, 3: 2}), (FULL, STRETCH, {0: 3, 1: 7, 50: 3, 98: 7, 99: 3}),
            (TWENTY_POINTS, POINT, {point: 5 for point in range(20)}),
        ]:
            with self.subTest(web=web, names=names):
                self.assertIs(self.look_at(web, other, names), True)

    def test_a_piece_whose_image_is_none(self):
        for web, other, names in [
            (TRIANGLE, HOLLOW, identity(TRIANGLE)), (STRETCH, [(3,), (7,)], {3: 3, 7: 7}),
            (STRETCH, MIXED, {3: 1, 7: 4}), (STRETCH, MIXED, {3: 7, 7: 8}), (RING_OF_SIX, [(0, 1), (1, 2)], {
                0: 0, 1: 1, 2: 2, 3: 0, 4: 1, 5: 1,
            }), (FULL, SPHERE, {0: 0, 1: 1, 50: 2, 98: 3, 99: 0}), (SPHERE, PLANE, {0: 0, 1: 1, 2: 2, 3: 4}),
            (FULL, SPHERE_OF_3, {0: 0, 1: 1, 50: 2, 98: 3, 99: 4}), ([(0, 1, 2, 3)], SPHERE, {0: 0, 1: 1, 2: 2, 3: 3}),
        ]:
            with self.subTest(web=web, names=names):
                self.assertIs(self.look_at(web, other, names), False)

    def test_no_maps(self):
        self.assertIs(is_map(MIXED, TRIANGLE, GOOD), True)
        for name, names in NO_MAPS.items():
            with self.subTest(name):
                self.assertIs(self.look_at(MIXED, TRIANGLE, names), False)

    def test_all_dicts_between_small_webs(self):
        for web, other in [
            (HOLLOW, HOLLOW), (TRIANGLE, HOLLOW), (HOLLOW, STRETCH), (SPHERE, SPHERE), (TWO_RINGS, HOLLOW),
        ]:
            found = [0, 0]
            for under in product(points(other) + [99], repeat=len(points(web))):
                found[self.look_at(web, other, dict(zip(points(web), under)))] += 1
            self.assertGreater(min(found), 0)

    def test_varied_maps(self):
        for web, other, names in varied_maps():
            self.assertIs(is_map(web, other, names), True)
            for point in list(names)[:3]:
                self.assertIs(is_map(web, other, {key: names[key] for key in names if key != point}), False)
                self.assertIs(is_map(web, other, {**names, 100 + point: names[point]}), False)
                self.look_at(web, other, {**names, point: 2})

    def test_no_web_of_the_first_then_of_the_second(self):
        for name, web in NO_WEBS.items():
            for names in [{}, {1: 1}, {-1: 100}]:
                for one, other in [(web, POINT), (POINT, web), (web, web), (EMPTY, web)]:
                    with self.subTest(name, names=names), self.assertRaises(NoWeb):
                        is_map(list(one), list(other), names)


class Image(unittest.TestCase):
    def test_known(self):
        self.assertEqual(image(RING_OF_SIX, HOLLOW, TWICE), [(1, 2), (1, 3), (2, 3)])
        self.assertEqual(image(RING_OF_SIX, TRIANGLE, TWICE), [(1, 2), (1, 3), (2, 3)])
        self.assertEqual(image(MIXED, TRIANGLE, GOOD), [(1, 2, 3)])
        self.assertEqual(image(EMPTY, TORUS, {}), [])
        self.assertEqual(image(TORUS, POINT, {point: 5 for point in range(7)}), [(5,)])
        self.assertEqual(image(TRIANGLE, SPHERE, {1: 3, 2: 0, 3: 3}), [(0, 3)])
        self.assertEqual(image(MIXED, MIXED, {1: 1, 2: 2, 3: 2, 4: 2, 7: 7, 8: 4, 9: 4}), [(4,), (7,), (1, 2)])
        self.assertEqual(image([(0, 1), (2,)], STRETCH, {0: 3, 1: 7, 2: 3}), [(3, 7)])

    def test_of_each_web_to_itself(self):
        for web in all_webs():
            self.assertEqual(image(web, web, identity(web)), greatest(web))

    def test_by_the_images_of_all_pieces(self):
        for web, other, names in varied_maps():
            told = image(web, other, names)
            found = {frozenset(names[point] for point in piece) for piece in plain_pieces(web)}
            self.assertEqual(told, plain_greatest(found))
            self.assertEqual(plain_pieces(told), found)


class Carried(unittest.TestCase):
    def look_at(self, web, other, names, chain):
        told = carried(web, other, names, chain)
        self.assertEqual(told, plain_carried(names, chain))
        self.assertIs(is_chain(other, told), True)
        self.assertLessEqual({len(piece) for piece in told}, {len(piece) for piece in chain})
        return told

    def test_turned_about(self):
        """An odd number of pairs of points that stand about takes the weight from nought."""
        for size in range(1, 6):
            piece = FULL[0][:size]
            for turned in permutations(piece):
                names = {**identity(FULL), **dict(zip(piece, turned))}
                falls = sum(turned[k] > turned[j] for j in range(size) for k in range(j))
                told = self.look_at(FULL, FULL, names, {piece: 5})
                self.assertEqual(told, {piece: 5 if falls % 2 == 0 else -5})

    def test_known(self):
        self.assertEqual(carried(STRETCH, STRETCH, {3: 7, 7: 3}, {(3, 7): 4}), {(3, 7): -4})
        self.assertEqual(carried(STRETCH, STRETCH, {3: 7, 7: 3}, {(3,): 4, (7,): 1}), {(3,): 1, (7,): 4})
        self.assertEqual(carried(TRIANGLE, TRIANGLE, {1: 2, 2: 3, 3: 1}, {(1, 2, 3): 4}), {(1, 2, 3): 4})
        self.assertEqual(carried(TRIANGLE, TRIANGLE, {1: 3, 2: 2, 3: 1}, {(1, 2, 3): 4}), {(1, 2, 3): -4})
        self.assertEqual(carried(STRETCH, MIXED, {3: 9, 7: 8}, {(3, 7): FAR}), {(8, 9): -FAR})

    def test_points_that_fall_together(self):
        self.assertEqual(carried(STRETCH, POINT, {3: 5, 7: 5}, {(3, 7): 4}), {})
        self.assertEqual(carried(TRIANGLE, STRETCH, {1: 3, 2: 7, 3: 3}, {(1, 2, 3): 1}), {})
        self.assertEqual(carried(TRIANGLE, STRETCH, {1: 3, 2: 7, 3: 3}, {(1, 3): 1}), {})
        self.assertEqual(carried(TRIANGLE, STRETCH, {1: 3, 2: 7, 3: 3}, {(1, 3): 1, (1, 2): 2}), {(3, 7): 2})

    def test_pieces_that_come_to_one(self):
        names = {1: 3, 2: 7, 3: 3}
        self.assertEqual(carried(TRIANGLE, STRETCH, names, {(1, 2): 2, (2, 3): 1}), {(3, 7): 1})
        self.assertEqual(carried(TRIANGLE, STRETCH, names, {(1, 2): 2, (2, 3): 2}), {})
        self.assertEqual(carried(TRIANGLE, STRETCH, names, {(1, 2): FAR, (2, 3): -FAR}), {(3, 7): 2 * FAR})
        self.assertEqual(carried(TRIANGLE, STRETCH, names, {(1,): 2, (3,): 5, (2,): 1}), {(3,): 7, (7,): 1})
        self.assertEqual(carried(TRIANGLE, STRETCH, names, {(1,): 2, (3,): -2}), {})

    def test_twice_round(self):
        ring = plain_ring(range(6))
        once = {(1, 2): 1, (2, 3): 1, (1, 3): -1}
        self.assertEqual(carried(RING_OF_SIX, HOLLOW, TWICE, ring), put_together([(2, once)]))

    def test_the_nought_chain(self):
        for web, other, names in varied_maps():
            self.assertEqual(carried(web, other, names, {}), {})

    def test_varied_chains(self):
        found = 0
        for web, other, names in varied_maps():
            for size in range(1, 6):
                for chain in varied_chains(web, size, len(names)):
                    told = self.look_at(web, other, names, chain)
                    found += len(told) > 0
        self.assertGreater(found, 200)

    def test_the_seam_of_a_carried_chain_is_the_carried_seam(self):
        for web, other, names in varied_maps():
            for size in range(1, 6):
                for chain in varied_chains(web, size, 1):
                    told = carried(web, other, names, chain)
                    self.assertEqual(seam(other, told), carried(web, other, names, plain_seam(chain)))

    def test_no_map_goes_ahead_of_no_chain(self):
        for name, names in NO_MAPS.items():
            for chain in [{}, {(1, 2): 1}, {(1, 2): 0}, {(): 1}, {(77,): 1}]:
                with self.subTest(name, chain=chain), self.assertRaises(NoMap):
                    carried(MIXED, TRIANGLE, names, chain)

    def test_no_chain(self):
        for name, chain in NO_CHAINS.items():
            with self.subTest(name), self.assertRaises(NoChain):
                carried(MIXED, TRIANGLE, GOOD, chain)
        # A chain of the other web alone is none of the web.
        with self.assertRaises(NoChain):
            carried(STRETCH, MIXED, {3: 1, 7: 2}, {(1, 2): 1})


def plain_ring(some):
    """The chain once round a ring of points, in their order."""
    some = list(some)
    return put_together([
        (1 if one < other else -1, {tuple(sorted([one, other])): 1}) for one, other in zip(some, some[1:] + some[:1])
    ])


class Behind(unittest.TestCase):
    def rows(self):
        """Tuples of three webs, a map from the first to the second and one from there to the third."""
        for seed, (web, middle, one) in enumerate(varied_maps()):
            every = points(middle)
            for reach in [len(every) + 2, 3]:
                other = dict(zip(every, varied_numbers(len(every), 0, reach, seed)))
                yield web, middle, led(middle, other), one, other

    def test_known(self):
        turn = {1: 2, 2: 3, 3: 1}
        self.assertEqual(behind(RING_OF_SIX, HOLLOW, HOLLOW, TWICE, turn), {0: 2, 1: 3, 2: 1, 3: 2, 4: 3, 5: 1})
        self.assertEqual(behind(HOLLOW, HOLLOW, HOLLOW, turn, turn), {1: 3, 2: 1, 3: 2})
        self.assertEqual(behind(EMPTY, TORUS, TORUS, {}, identity(TORUS)), {})
        self.assertEqual(behind(EMPTY, EMPTY, EMPTY, {}, {}), {})
        self.assertEqual(behind(POINT, STRETCH, HOLLOW, {5: 7}, {3: 1, 7: 2}), {5: 2})

    def test_led_by_the_one_and_then_by_the_other(self):
        for web, middle, last, one, other in self.rows():
            told = behind(web, middle, last, one, other)
            self.assertEqual(told, {point: other[one[point]] for point in points(web)})
            self.assertIs(is_map(web, last, told), True)

    def test_chains(self):
        for web, middle, last, one, other in self.rows():
            both = behind(web, middle, last, one, other)
            for size in range(1, 6):
                for chain in varied_chains(web, size, 2)[:2]:
                    by_turns = carried(middle, last, other, carried(web, middle, one, chain))
                    self.assertEqual(carried(web, last, both, chain), by_turns)

    def test_no_web_of_each(self):
        for name, web in NO_WEBS.items():
            for place in range(3):
                for one, other in [({1: 1}, {1: 1}), ({}, {}), (GOOD, {77: 1}), ({-1: 5}, GOOD)]:
                    webs = [MIXED, TRIANGLE, TRIANGLE]
                    webs[place] = list(web)
                    with self.subTest(name, place=place), self.assertRaises(NoWeb):
                        behind(*webs, one, other)

    def test_no_map_of_the_one_and_of_the_other(self):
        for name, names in NO_MAPS.items():
            with self.subTest(name), self.assertRaises(NoMap):
                behind(MIXED, TRIANGLE, TRIANGLE, names, identity(TRIANGLE))
            with self.subTest(name), self.assertRaises(NoMap):
                behind(MIXED, MIXED, TRIANGLE, identity(MIXED), names)
        # Each dict is a map, but not between the webs that stand there.
        with self.assertRaises(NoMap):
            behind(MIXED, TRIANGLE, TRIANGLE, identity(TRIANGLE), GOOD)
        with self.assertRaises(NoMap):
            behind(TRIANGLE, TRIANGLE, HOLLOW, identity(TRIANGLE), identity(TRIANGLE))

    def test_a_point_that_nothing_comes_to_must_be_led_too(self):
        for other in [{3: 5}, {3: 5, 7: 6}, {3: 5, 7: 5, 8: 5}]:
            with self.subTest(other=other), self.assertRaises(NoMap):
                behind(POINT, STRETCH, POINT, {5: 3}, other)


class OnHoles(unittest.TestCase):
    def look_at(self, web, other, names, height):
        """The rounds of the other web, so often as told, are alike to the carried round."""
        told = on_holes(web, other, names, height)
        free, twisted = rounds(web, height)
        every = free + [row[0] for row in twisted]
        self.assertEqual(len(told), len(every))
        free, twisted = rounds(other, height)
        for chain, row in zip(every, told):
            self.assertEqual([tuple, list, list], [value.__class__ for value in (row, *row)])
            self.assertEqual((len(row), len(row[0]), len(row[1])), (2, len(free), len(twisted)))
            for often, (round_chain, number, filling) in zip(row[1], twisted):
                self.assertTrue(0 <= often < number)
            led_round = plain_carried(names, chain)
            self.assertEqual(row, told_by(other, height, led_round)[:2])
            terms = list(zip(row[0], free)) + [(often, part[0]) for often, part in zip(row[1], twisted)]
            self.assertIs(is_alike(other, led_round, put_together(terms)), True)
        return told

    def test_a_web_to_itself(self):
        for name, web, told in HOLES:
            for height in HEIGHTS:
                free, twisted = told[height]
                ones = [[int(k == j) for j in range(free + len(twisted))] for k in range(free + len(twisted))]
                parted = [(row[:free], row[free:]) for row in ones]
                with self.subTest(name, height=height):
                    self.assertEqual(on_holes(web, web, identity(web), height), parted)

    def test_twice_round(self):
        told = self.look_at(RING_OF_SIX, HOLLOW, TWICE, 1)
        self.assertIn(told, [[([2], [])], [([-2], [])]])
        self.assertIn(self.look_at(RING_OF_SIX, HOLLOW, TWICE, 0), [[([1], [])], [([-1], [])]])
        for height in [2, 3, 4]:
            self.assertEqual(on_holes(RING_OF_SIX, HOLLOW, TWICE, height), [])
        self.assertEqual(on_holes(RING_OF_SIX, TRIANGLE, TWICE, 1), [([], [])])

    def test_round_the_other_way(self):
        self.assertEqual(on_holes(HOLLOW, HOLLOW, {1: 2, 2: 1, 3: 3}, 1), [([-1], [])])
        self.assertEqual(on_holes(HOLLOW, HOLLOW, {1: 2, 2: 3, 3: 1}, 1), [([1], [])])
        self.assertEqual(on_holes(SPHERE, SPHERE, {0: 1, 1: 0, 2: 2, 3: 3}, 2), [([-1], [])])
        self.assertEqual(on_holes(SPHERE, SPHERE, {0: 1, 1: 0, 2: 3, 3: 2}, 2), [([1], [])])
        self.assertEqual(on_holes(SPHERE, SPHERE, {0: 1, 1: 0, 2: 2, 3: 2}, 2), [([0], [])])

    def test_to_one_point(self):
        for name, web, told in HOLES:
            names = {point: 5 for point in points(web)}
            for height in HEIGHTS:
                free, twisted = told[height]
                with self.subTest(name, height=height):
                    row = self.look_at(web, POINT, names, height)
                    if height > 0:
                        self.assertEqual(row, [([], [])] * (free + len(twisted)))
                    else:
                        self.assertEqual([(len(often[0]), often[1]) for often in row], [(1, [])] * free)

    def test_rings_into_a_plane(self):
        """Once round a twisted hole of two, twice round it, and round a triangle."""
        twice = {0: 0, 1: 1, 2: 3, 3: 0, 4: 1, 5: 3}
        self.assertEqual(self.look_at(HOLLOW, PLANE, {1: 0, 2: 1, 3: 3}, 1), [([], [1])])
        self.assertEqual(self.look_at(HOLLOW, PLANE, {1: 0, 2: 1, 3: 2}, 1), [([], [0])])
        self.assertEqual(self.look_at(RING_OF_SIX, PLANE, twice, 1), [([], [0])])
        once = {0: 0, 1: 1, 2: 1, 3: 3, 4: 3, 5: 0}
        self.assertEqual(self.look_at(RING_OF_SIX, PLANE, once, 1), [([], [1])])

    def test_a_twisted_hole_of_three(self):
        once = self.look_at(HOLLOW, THREEFOLD, {1: 0, 2: 1, 3: 2}, 1)
        back = self.look_at(HOLLOW, THREEFOLD, {1: 0, 2: 2, 3: 1}, 1)
        twice = self.look_at(RING_OF_SIX, THREEFOLD, {0: 0, 1: 1, 2: 2, 3: 0, 4: 1, 5: 2}, 1)
        self.assertIn(once[0][1][0], [1, 2])
        self.assertEqual(back[0][1][0], 3 - once[0][1][0])
        self.assertIn(twice[0][1][0], [1, 2])

    def test_webs_with_twisted_holes(self):
        fold = {point: point % 6 for point in range(12)}
        self.assertEqual(len(self.look_at(TWO_PLANES, PLANE, fold, 1)), 2)
        self.assertEqual([sum(row[1]) for row in self.look_at(PLANE, TWO_PLANES, identity(PLANE), 1)], [1])
        self.assertEqual(self.look_at(PLANE, PLANE, {0: 0, 1: 2, 2: 3, 3: 4, 4: 5, 5: 1}, 1), [([], [1])])

    def test_the_free_ones_go_ahead_of_the_twisted_ones(self):
        self.assertEqual(on_holes(BOTTLE, BOTTLE, identity(BOTTLE), 1), [([1], [0]), ([0], [1])])
        web = PLANE + [(6, 7), (7, 8), (6, 8)]
        self.assertEqual(holes(web, 1), (1, [2]))
        self.assertEqual(on_holes(web, web, identity(web), 1), [([1], [0]), ([0], [1])])
        # The plane is led to a point, and the ring round the twisted hole.
        names = {0: 6, 1: 6, 2: 6, 3: 6, 4: 6, 5: 6, 6: 0, 7: 1, 8: 3}
        self.assertEqual(self.look_at(web, web, names, 1), [([0], [1]), ([0], [0])])

    def test_a_torus_turned(self):
        turn = {k: (k + 1) % 7 for k in range(7)}
        self.assertEqual(self.look_at(TORUS, TORUS, turn, 1), [([1, 0], []), ([0, 1], [])])
        self.assertEqual(self.look_at(TORUS, TORUS, turn, 2), [([1], [])])
        back = {k: -k % 7 for k in range(7)}
        self.assertEqual(self.look_at(TORUS, TORUS, back, 1), [([-1, 0], []), ([0, -1], [])])

    def test_varied_maps(self):
        for web, other, names in list(varied_maps())[::3]:
            for height in HEIGHTS:
                self.look_at(web, other, names, height)

    def test_the_web_without_pieces(self):
        for height in HEIGHTS:
            self.assertEqual(on_holes(EMPTY, TORUS, {}, height), [])
            self.assertEqual(on_holes(EMPTY, EMPTY, {}, height), [])

    def test_no_map_goes_ahead_of_no_number(self):
        for name, names in NO_MAPS.items():
            for height in [0, 4] + NO_HEIGHTS:
                with self.subTest(name, height=height), self.assertRaises(NoMap):
                    on_holes(MIXED, TRIANGLE, names, height)

    def test_no_number(self):
        for web, other, names in [(MIXED, TRIANGLE, GOOD), (EMPTY, EMPTY, {}), (RING_OF_SIX, HOLLOW, TWICE)]:
            for height in NO_HEIGHTS + [FAR, -FAR]:
                with self.subTest(height=height), self.assertRaises(NoNumber):
                    on_holes(web, other, names, height)


class Refusals(unittest.TestCase):
    def test_no_web_goes_ahead_of_all(self):
        for name, web in NO_WEBS.items():
            for one, other in [(web, POINT), (MIXED, web), (web, web), (EMPTY, web)]:
                for names in [{}, {1: 1}, {-1: 100}]:
                    for function, more in [(image, ()), (carried, ({(): 0},)), (on_holes, (-1,)), (on_holes, (0,))]:
                        with self.subTest(name, names=names), self.assertRaises(NoWeb):
                            function(list(one), list(other), names, *more)

    def test_no_map(self):
        for name, names in NO_MAPS.items():
            with self.subTest(name), self.assertRaises(NoMap):
                image(MIXED, TRIANGLE, names)
        for web, other, names in [
            (TRIANGLE, HOLLOW, identity(TRIANGLE)), (STRETCH, EMPTY, {3: 3, 7: 7}), (EMPTY, POINT, {5: 5}),
        ]:
            for function, more in [(image, ()), (carried, ({},)), (on_holes, (0,))]:
                with self.subTest(names=names), self.assertRaises(NoMap):
                    function(web, other, names, *more)


class OwnMaps(Owned, unittest.TestCase):
    def cases(self):
        for web, other, names in [
            (EMPTY, POINT, {}), (RING_OF_SIX, HOLLOW, TWICE), (MIXED, TRIANGLE, GOOD), (PLANE, PLANE, identity(PLANE)),
            (BOTTLE, BOTTLE, identity(BOTTLE)), (TORUS, POINT, {point: 5 for point in range(7)}),
        ]:
            yield is_map, (list(web), list(other), dict(names))
            yield image, (list(web), list(other), dict(names))
            for size in range(1, 4):
                for chain in varied_chains(web, size):
                    yield carried, (list(web), list(other), dict(names), chain)
            for height in HEIGHTS:
                yield on_holes, (list(web), list(other), dict(names), height)
            yield behind, (list(web), list(other), list(other), dict(names), identity(other))
            yield behind, (list(web), list(web), list(other), identity(web), dict(names))

    def test_one_dict_handed_in_twice(self):
        turn = {1: 2, 2: 3, 3: 1}
        self.assertEqual(behind(HOLLOW, HOLLOW, HOLLOW, turn, turn), {1: 3, 2: 1, 3: 2})
        self.assertEqual(turn, {1: 2, 2: 3, 3: 1})

    def test_refused_dicts_are_the_same_behind(self):
        for name, names in NO_MAPS.items():
            handed = dict(names)
            with self.subTest(name), self.assertRaises(NoMap):
                image(MIXED, TRIANGLE, handed)
            self.assertEqual(repr(handed), repr(names))


if __name__ == "__main__":
    unittest.main()
