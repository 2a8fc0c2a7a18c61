import unittest
from itertools import combinations

from seamwright.bars import alive
from seamwright.bounding import bounds
from seamwright.building import both, cone, joined, shared
from seamwright.chains import seam
from seamwright.errors import NoNumber, NoWeb
from seamwright.growing import is_order
from seamwright.holes import holes, rounds
from seamwright.webs import balance, greatest, is_web

from map_samples import points
from order_samples import FAR, PRIMES, in_rising_order
from owned import Owned
from samples import (
    BOTTLE, EMPTY, FULL, HOLES, HOLLOW, MIXED, NET, NO_WEBS, PLANE, POINT, SPHERE, SPHERE_OF_3, SPHERE_OF_4, STRETCH,
    THREEFOLD, TORUS, TRIANGLE, TWENTY_POINTS, TWO_HUNDRED, TWO_PLANES, TWO_RINGS, all_webs, holes_by_prime,
    plain_greatest, plain_pieces, some_webs, webs_with_holes,
)

HEIGHTS = range(5)
TWO_POINTS = [(80,), (81,)]
# 66 pieces: twice 15 and twelve times 3.
SIXTY_SIX = [(0, 1, 2, 3), (10, 11, 12, 13)] + [(k, k + 1) for k in range(20, 44, 2)]
# 99 pieces: six times 15 and three times 3.
NINETY_NINE = [tuple(range(4 * k, 4 * k + 4)) for k in range(6)] + [(k, k + 1) for k in (30, 40, 50)]


def moved(web, by):
    return [tuple(point + by for point in piece) for piece in web]


def plain_joined(one, other):
    ones = plain_pieces(one)
    others = plain_pieces(other)
    return ones | others | {piece | far for piece in ones for far in others}


def plain_balance(sets):
    return sum((-1) ** (len(piece) + 1) for piece in sets)


def pairs_of_webs():
    every = all_webs() + webs_with_holes()
    for k, web in enumerate(every):
        yield web, every[(7 * k + 3) % len(every)]
        yield web, list(reversed(web))
    for one in [EMPTY, POINT, HOLLOW, TRIANGLE, MIXED, TORUS, TWO_HUNDRED]:
        for other in [EMPTY, POINT, HOLLOW, TRIANGLE, MIXED, PLANE, moved(TWO_HUNDRED, 40)]:
            yield one, other


class Both(unittest.TestCase):
    def test_known(self):
        for one, other, told in [
            (HOLLOW, TRIANGLE, [(1, 2, 3)]), (TRIANGLE, HOLLOW, [(1, 2, 3)]), (POINT, STRETCH, [(5,), (3, 7)]),
            ([(1, 2, 3), (4,)], [(3, 4), (0, 9)], [(0, 9), (3, 4), (1, 2, 3)]), (EMPTY, EMPTY, []),
            (EMPTY, MIXED, greatest(MIXED)), (MIXED, EMPTY, greatest(MIXED)), (MIXED, MIXED, greatest(MIXED)),
            ([(1, 2)], [(1, 2), (2,)], [(1, 2)]),
        ]:
            with self.subTest(one=one, other=other):
                self.assertEqual(both(one, other), told)

    def test_all_pieces_of_both(self):
        for one, other in pairs_of_webs():
            together = plain_pieces(one) | plain_pieces(other)
            told = both(one, other)
            self.assertEqual(told, plain_greatest(together))
            self.assertEqual(plain_pieces(told), together)
            self.assertEqual(both(other, one), told)

    def test_more_than_200_pieces_and_more_than_twenty_greatest(self):
        far = moved(TWO_HUNDRED, 40)
        told = both(TWO_HUNDRED, far)
        self.assertEqual(len(plain_pieces(told)), 400)
        self.assertEqual(told, plain_greatest(plain_pieces(TWO_HUNDRED + far)))
        told = both(TWENTY_POINTS, [(k,) for k in range(10, 30)])
        self.assertEqual(told, [(k,) for k in range(30)])
        self.assertEqual(both(NET, moved(NET, 20)), sorted(NET + moved(NET, 20)))


class Shared(unittest.TestCase):
    def test_known(self):
        for one, other, told in [
            (HOLLOW, TRIANGLE, [(1, 2), (1, 3), (2, 3)]), (POINT, STRETCH, []), (EMPTY, EMPTY, []),
            (EMPTY, MIXED, []), (MIXED, EMPTY, []), (MIXED, MIXED, greatest(MIXED)),
            ([(1, 2, 3), (4,)], [(3, 4), (2, 3)], [(4,), (2, 3)]), ([(1, 2, 3)], [(2, 3, 4)], [(2, 3)]),
            ([(1, 2)], [(1,), (2,)], [(1,), (2,)]), (MIXED, TRIANGLE, [(1, 2, 3)]),
            # Two points of both, but no stretch of both.
            ([(1, 2), (2, 3)], [(1, 3), (2,)], [(1,), (2,), (3,)]),
        ]:
            with self.subTest(one=one, other=other):
                self.assertEqual(shared(one, other), told)

    def test_the_pieces_that_are_pieces_of_both(self):
        found = 0
        for one, other in pairs_of_webs():
            common = plain_pieces(one) & plain_pieces(other)
            told = shared(one, other)
            self.assertEqual(told, plain_greatest(common))
            self.assertEqual(plain_pieces(told), common)
            self.assertEqual(shared(other, one), told)
            found += 0 < len(told) and told not in [greatest(one), greatest(other)]
        self.assertGreater(found, 40)

    def test_more_than_twenty_greatest_pieces(self):
        """All stretches of nine points lie in the triangles of both nets, but no triangle does."""
        turn = [0, 1, 3, 2, 4, 7, 6, 8, 5]
        other = [tuple(sorted(turn[point] for point in piece)) for piece in NET]
        self.assertEqual(shared(NET, other), list(combinations(range(9), 2)))


class Balance(unittest.TestCase):
    def test_together_that_of_the_one_and_that_of_the_other(self):
        for one, other in pairs_of_webs():
            told = both(one, other)
            common = shared(one, other)
            sums = plain_balance(plain_pieces(told)) + plain_balance(plain_pieces(common))
            self.assertEqual(sums, balance(one) + balance(other))
            if is_web(told) and is_web(common):
                self.assertEqual(balance(told) + balance(common), balance(one) + balance(other))


class Joined(unittest.TestCase):
    def look_at(self, one, other):
        told = joined(one, other)
        every = plain_joined(one, other)
        self.assertEqual(told, plain_greatest(every))
        self.assertEqual(plain_pieces(told), every)
        self.assertEqual(joined(other, one), told)
        return told

    def test_known(self):
        for one, other, told in [
            ([(1,)], [(2,)], [(1, 2)]), ([(2,)], [(1,)], [(1, 2)]), (STRETCH, POINT, [(3, 5, 7)]),
            ([(1,), (2,)], [(3,), (4,)], [(1, 3), (1, 4), (2, 3), (2, 4)]),
            ([(1,), (4,)], [(2,), (3,)], [(1, 2), (1, 3), (2, 4), (3, 4)]),
            ([(1, 9)], [(4, 5)], [(1, 4, 5, 9)]), ([(0, 2, 4)], [(1, 3)], [(0, 1, 2, 3, 4)]),
            ([(1, 2), (3,)], [(7,), (8, 9)], [(3, 7), (1, 2, 7), (3, 8, 9), (1, 2, 8, 9)]),
        ]:
            with self.subTest(one=one, other=other):
                self.assertEqual(self.look_at(one, other), told)

    def test_a_web_without_pieces_joins_to_the_other_one(self):
        for web in all_webs() + webs_with_holes():
            self.assertEqual(joined(web, []), greatest(web))
            self.assertEqual(joined([], web), greatest(web))
        self.assertEqual(joined([], []), [])

    def test_of_two_webs(self):
        found = 0
        for one in some_webs():
            for other in [[(99,)], TWO_POINTS, [(80, 81)], [(80, 81), (81, 82), (80, 82)], [(98,), (80, 82)]]:
                every = plain_joined(one, other)
                if set(points(one)) & set(points(other)):
                    continue
                if len(every) <= 200 and max(len(piece) for piece in every) <= 5:
                    self.look_at(one, other)
                    found += 1
                else:
                    with self.assertRaises(NoWeb):
                        joined(one, other)
        self.assertGreater(found, 60)

    def test_a_shared_point(self):
        for one, other in [
            (POINT, POINT), (MIXED, MIXED), (STRETCH, [(7, 8)]), (STRETCH, [(1, 2), (3,)]), ([(1,), (2,)], [(3,), (2,)]),
            (TRIANGLE, [(0,), (3,)]), ([(0, 1, 2)], [(2,)]), ([(0, 99)], [(99,)]),
        ]:
            with self.subTest(one=one, other=other), self.assertRaises(NoWeb):
                joined(one, other)
            with self.subTest(one=other, other=one), self.assertRaises(NoWeb):
                joined(other, one)

    def test_pieces_of_more_than_5_points(self):
        for size in range(1, 6):
            one = [tuple(range(size))]
            for far in range(1, 6):
                other = [tuple(range(50, 50 + far)), (70,)]
                with self.subTest(size=size, far=far):
                    if size + far <= 5:
                        self.look_at(one, other)
                    else:
                        with self.assertRaises(NoWeb):
                            joined(one, other)
        # One piece of each alone is too great together.
        with self.assertRaises(NoWeb):
            joined([(0,), (1,), (2, 3, 4)], [(50,), (51, 52, 53)])

    def test_200_pieces_are_told(self):
        self.assertEqual(len(plain_pieces(SIXTY_SIX)), 66)
        told = self.look_at(SIXTY_SIX, TWO_POINTS)
        self.assertEqual(len(plain_pieces(told)), 200)
        self.assertGreater(len(told), 20)
        self.assertEqual(len(plain_pieces(self.look_at(TWO_HUNDRED, EMPTY))), 200)

    def test_more_than_200_pieces(self):
        for one, other in [
            (SIXTY_SIX + [(60,)], TWO_POINTS), (NINETY_NINE + [(60,)], [(99,)]),
            (TWENTY_POINTS, [(k,) for k in range(50, 60)]), (TWENTY_POINTS, [(50, 51), (52, 53), (54, 55)]),
        ]:
            self.assertIs(is_web(one) and is_web(other), True)
            self.assertGreater(len(plain_joined(one, other)), 200)
            with self.subTest(one=one, other=other), self.assertRaises(NoWeb):
                joined(one, other)
        self.assertEqual(len(plain_pieces(self.look_at(NINETY_NINE, [(99,)]))), 199)

    def test_a_join_of_spheres_is_a_sphere(self):
        two = [(90,), (91,)]
        web = [(0,), (1,)]
        for height in range(1, 4):
            web = self.look_at(web, [(2 * height,), (2 * height + 1,)])
            told = [holes(web, high) for high in HEIGHTS]
            self.assertEqual(told, [(int(high in (0, height)), []) for high in HEIGHTS])
        self.assertEqual(holes(joined(HOLLOW, two), 2), (1, []))


class Cone(unittest.TestCase):
    def look_at(self, web, point):
        told = cone(web, point)
        every = plain_joined(web, [(point,)])
        self.assertEqual(told, plain_greatest(every))
        self.assertEqual(told, joined(web, [(point,)]))
        return told

    def webs(self):
        """Webs that have a cone, and a point that they don't have."""
        for web in all_webs() + webs_with_holes():
            if all(len(piece) < 5 for piece in web) and len(plain_pieces(web)) < 100:
                yield web, [point for point in [0, 99, 6, 42, 7] if point not in points(web)][0]

    def test_known(self):
        self.assertEqual(cone(EMPTY, 4), [(4,)])
        self.assertEqual(cone(POINT, 4), [(4, 5)])
        self.assertEqual(cone(POINT, 6), [(5, 6)])
        self.assertEqual(cone(HOLLOW, 0), [(0, 1, 2), (0, 1, 3), (0, 2, 3)])
        self.assertEqual(cone(HOLLOW, 99), [(1, 2, 99), (1, 3, 99), (2, 3, 99)])
        self.assertEqual(cone(MIXED, 5), [(5, 7), (3, 4, 5), (5, 8, 9), (1, 2, 3, 5)])
        self.assertEqual(cone([(0, 1, 2, 98)], 99), [(0, 1, 2, 98, 99)])

    def test_all(self):
        for web, point in self.webs():
            self.look_at(web, point)

    def test_just_one_hole(self):
        for web, point in self.webs():
            told = cone(web, point)
            if len(told) <= 20:
                for height in HEIGHTS:
                    self.assertEqual(holes(told, height), (int(height == 0), []))

    def test_by_primes(self):
        for web, point in list(self.webs())[::4]:
            order = in_rising_order(cone(web, point))
            self.assertIs(is_order(order), True)
            for prime in PRIMES:
                told = [alive(order, prime, high, len(order) - 1) for high in range(-1, 6)]
                self.assertEqual(told, [0, 1, 0, 0, 0, 0, 0])

    def test_each_closed_chain_bounds_in_it(self):
        found = 0
        for web, point in self.webs():
            told = cone(web, point)
            if len(told) > 20:
                continue
            for height in range(1, 4):
                free, twisted = rounds(web, height)
                for chain in free + [row[0] for row in twisted]:
                    answer = bounds(told, chain)
                    self.assertEqual(answer[0], "fills")
                    self.assertEqual(seam(told, answer[1]), chain)
                    found += 1
        self.assertGreater(found, 30)

    def test_points_bound_where_their_weights_are_nought_together(self):
        web = cone([(1,), (2,), (3,)], 0)
        self.assertEqual(bounds(web, {(1,): 2, (2,): -1, (3,): -1})[0], "fills")
        self.assertEqual(bounds(web, {(1,): 2, (2,): -1})[0], "shows")

    def test_no_number(self):
        for web in [EMPTY, POINT, MIXED, TORUS, FULL, TWO_HUNDRED]:
            for point in [-1, 100, 101, -100, FAR, -FAR] + points(web):
                with self.subTest(web=web, point=point), self.assertRaises(NoNumber):
                    cone(web, point)

    def test_no_web_where_the_cone_would_be_none(self):
        for web in [FULL, SPHERE_OF_4, TWO_HUNDRED, NINETY_NINE + [(60,)], [(1,), (10, 11, 12, 13, 14)]]:
            with self.subTest(web=web), self.assertRaises(NoWeb):
                cone(web, 77)
        self.assertEqual(len(plain_pieces(self.look_at(NINETY_NINE, 77))), 199)
        self.assertEqual(len(self.look_at(SPHERE_OF_3, 77)), 5)

    def test_no_web_goes_ahead_of_no_number(self):
        for name, web in NO_WEBS.items():
            for point in [0, 1, 50, 99, -1, 100, FAR]:
                with self.subTest(name, point=point), self.assertRaises(NoWeb):
                    cone(list(web), point)


class Apart(unittest.TestCase):
    """Two webs without a shared point."""

    def look_at(self, one, other):
        told = both(one, other)
        if not is_web(told):
            return
        for height in HEIGHTS:
            ones = holes(one, height)
            others = holes(other, height)
            found = holes(told, height)
            self.assertEqual(found[0], ones[0] + others[0])
            for prime in PRIMES + [11, 97]:
                divided = [number for number in ones[1] + others[1] if number % prime == 0]
                self.assertEqual(len([number for number in found[1] if number % prime == 0]), len(divided))

    def test_holes_of_both(self):
        for name, one, told in HOLES:
            for other in [POINT, HOLLOW, SPHERE, PLANE, [(1, 2), (3,)]]:
                self.look_at(one, moved(other, 50) if max([0] + points(one)) < 50 else moved(other, 30))

    def test_twisted_ones_of_both(self):
        self.assertEqual(holes(both(PLANE, moved(PLANE, 10)), 1), (0, [2, 2]))
        self.assertEqual(holes(both(PLANE, moved(HOLLOW, 10)), 1), (1, [2]))
        self.assertEqual(both(PLANE, moved(PLANE, 6)), sorted(TWO_PLANES))

    def test_holes_by_primes(self):
        """Of webs, too, that have more greatest pieces together than a web that is handed in."""
        for one in [PLANE, THREEFOLD, TORUS, BOTTLE, TWO_RINGS, SPHERE_OF_4, EMPTY]:
            for other in [THREEFOLD, PLANE, SPHERE, MIXED, SPHERE_OF_4, EMPTY]:
                order = in_rising_order(both(one, moved(other, 40)))
                for prime in PRIMES:
                    for height in HEIGHTS:
                        told = alive(order, prime, height, len(order) - 1) if order else 0
                        sums = holes_by_prime(one, height, prime) + holes_by_prime(other, height, prime)
                        self.assertEqual(told, sums)


class Refusals(unittest.TestCase):
    def test_no_web_of_the_first_and_of_the_second(self):
        for name, web in NO_WEBS.items():
            for one, other in [(web, POINT), (POINT, web), (web, web), (EMPTY, web), (web, EMPTY), (FULL, web)]:
                for function in [both, shared, joined]:
                    with self.subTest(name), self.assertRaises(NoWeb):
                        function(list(one), list(other))

    def test_neither_of_both_is_refused_for_its_pieces(self):
        for one, other in [(FULL, FULL), (TWO_HUNDRED, moved(TWO_HUNDRED, 40)), (POINT, POINT)]:
            both(one, other)
            shared(one, other)


class OwnBuildings(Owned, unittest.TestCase):
    def cases(self):
        for one, other in [
            (EMPTY, EMPTY), (EMPTY, MIXED), (POINT, STRETCH), (HOLLOW, moved(TRIANGLE, 20)), (SIXTY_SIX, TWO_POINTS),
        ]:
            for function in [both, shared, joined]:
                yield function, (list(one), list(other))
                yield function, (list(other), list(one))
        for one, other in [(TRIANGLE, HOLLOW), (MIXED, MIXED), (PLANE, TORUS)]:
            for function in [both, shared]:
                yield function, (list(one), list(other))
        for web in [EMPTY, POINT, MIXED, TORUS, PLANE]:
            yield cone, (list(web), 44)

    def test_one_list_handed_in_twice(self):
        web = [(2, 3), (1, 2)]
        self.assertEqual(both(web, web), [(1, 2), (2, 3)])
        self.assertEqual(shared(web, web), [(1, 2), (2, 3)])
        with self.assertRaises(NoWeb):
            joined(web, web)
        self.assertEqual(web, [(2, 3), (1, 2)])

    def test_refused_lists_are_the_same_behind(self):
        for function, handed, error in [
            (joined, (list(MIXED), list(MIXED)), NoWeb), (cone, (list(MIXED), 3), NoNumber),
            (both, (list(MIXED), [(2, 1)]), NoWeb), (cone, (list(FULL), 5), NoWeb),
        ]:
            before = repr(handed)
            with self.assertRaises(error):
                function(*handed)
            self.assertEqual(repr(handed), before)


if __name__ == "__main__":
    unittest.main()
