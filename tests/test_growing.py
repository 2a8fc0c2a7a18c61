import unittest
from itertools import permutations

from seamwright.errors import NoNumber, NoOrder, NoWeb
from seamwright.growing import is_order, order_by, web_at, worths_by_points
from seamwright.webs import greatest, is_web, pieces

from map_samples import points
from order_samples import (
    FAR, LONG_ORDER, NO_ORDERS, SOON, in_rising_order, plain_is_order, some_orders, varied_orders,
)
from owned import Owned
from samples import (
    EMPTY, FULL, HOLLOW, MIXED, NET, NO_WEBS, PLANE, POINT, SPHERE, STRETCH, TORUS, TRIANGLE, TWO_HUNDRED, all_webs,
    plain_greatest, plain_pieces, plain_rims, some_webs, told_in_order, varied_numbers,
)

FLAT = {(1,): 0, (2,): 0, (3,): 0, (1, 2): 0, (1, 3): 0, (2, 3): 0, (1, 2, 3): 0}
# Dicts that are no worths of TRIANGLE.
NO_WORTHS = {
    "nothing": {},
    "a point left out": {piece: worth for piece, worth in FLAT.items() if piece != (2,)},
    "the triangle left out": {piece: worth for piece, worth in FLAT.items() if piece != (1, 2, 3)},
    "a stretch left out": {piece: worth for piece, worth in FLAT.items() if piece != (1, 3)},
    "the points left out": {(1, 2): 0, (1, 3): 0, (2, 3): 0, (1, 2, 3): 0},
    "the greatest piece alone": {(1, 2, 3): 0},
    "a point too many": {**FLAT, (4,): 0},
    "a piece too many": {**FLAT, (1, 4): 5},
    "no points": {**FLAT, (): 0},
    "a tuple that is no piece": {**FLAT, (2, 1): 0},
    "a far tuple": {**FLAT, (FAR, -FAR): 0},
    "a piece exchanged for another": {**{piece: 0 for piece in FLAT if piece != (1, 3)}, (1, 4): 0},
    "a stretch below its points": {**FLAT, (1, 2): -1},
    "a stretch below its second point": {**FLAT, (2,): 1, (2, 3): 1, (1, 2, 3): 1},
    "a stretch below its first point": {**FLAT, (1,): 1, (1, 3): 1, (1, 2, 3): 1},
    "a triangle below a stretch": {**FLAT, (2, 3): 1},
    "a triangle below its last stretch": {**FLAT, (1, 2): FAR, (1, 2, 3): FAR - 1},
    "a point above all": {**FLAT, (1,): 1},
}


def varied_worths(web, seed, reach):
    """Worths of a web: each piece has some more than the greatest of its rims, or the same."""
    every = in_rising_order(web)
    told = {}
    for piece, more in zip(every, varied_numbers(len(every), 0, reach, seed)):
        told[piece] = max([told[rim] for rim in plain_rims(piece)], default=-reach * (seed % 3)) + more
    return told


def plain_order_by(worths):
    return sorted(worths, key=lambda piece: (worths[piece], len(piece), piece))


class IsOrder(unittest.TestCase):
    def test_without_pieces(self):
        self.assertIs(is_order([]), True)

    def test_orders(self):
        for order in some_orders() + list(varied_orders()):
            self.assertIs(is_order(order), True)
            self.assertIs(plain_is_order(order), True)

    def test_no_orders(self):
        for name, order in NO_ORDERS.items():
            with self.subTest(name):
                self.assertIs(is_order(list(order)), False)
                self.assertIs(plain_is_order(order), False)

    def test_each_row_of_some_pieces(self):
        found = [0, 0]
        for some in [[(1,), (2,), (1, 2), (3,)], [(4,), (7,), (4, 7)], [(0,), (1,), (2,), (0, 1), (1, 2)]]:
            for row in permutations(some):
                for count in range(len(row) + 1):
                    told = is_order(list(row[:count]))
                    self.assertIs(told, plain_is_order(row[:count]))
                    found[told] += 1
        self.assertGreater(min(found), 20)

    def test_two_pieces_exchanged(self):
        found = [0, 0]
        for order in [SOON, in_rising_order(SPHERE), in_rising_order([(0, 1, 2, 3)])]:
            for late in range(len(order)):
                for early in range(late):
                    row = list(order)
                    row[early], row[late] = row[late], row[early]
                    told = is_order(row)
                    self.assertIs(told, plain_is_order(row))
                    found[told] += 1
        self.assertGreater(min(found), 20)

    def test_a_piece_left_out(self):
        for order in [SOON, in_rising_order(TORUS), in_rising_order(FULL)]:
            for time, piece in enumerate(order):
                told = is_order(order[:time] + order[time + 1:])
                self.assertIs(told, not any(set(piece) < set(other) for other in order))

    def test_a_piece_twice(self):
        for time in range(len(SOON)):
            for place in range(len(SOON) + 1):
                self.assertIs(is_order(SOON[:place] + [SOON[time]] + SOON[place:]), False)

    def test_200_and_201_pieces(self):
        for order in [in_rising_order(TWO_HUNDRED), LONG_ORDER]:
            self.assertEqual(len(order), 200)
            self.assertIs(is_order(order), True)
            self.assertIs(is_order(order + [(0, 50)] if (50,) in order else order + [(77,)]), False)
        self.assertEqual(len(NO_ORDERS["201 pieces"]), 201)

    def test_points_at_the_ends(self):
        self.assertIs(is_order([(99,), (0,), (0, 99)]), True)
        self.assertIs(is_order([(99,), (0,), (100,)]), False)
        self.assertIs(is_order([(99,), (0,), (-1,)]), False)

    def test_pieces_of_five_points(self):
        self.assertIs(is_order(in_rising_order(FULL)), True)
        self.assertIs(is_order(FULL), False)


class WebAt(unittest.TestCase):
    def test_known(self):
        for time, told in enumerate([
            [(1,)], [(1,), (2,)], [(1, 2)], [(3,), (1, 2)], [(1, 2), (2, 3)], [(1, 2), (1, 3), (2, 3)], [(1, 2, 3)],
        ]):
            with self.subTest(time=time):
                self.assertEqual(web_at(SOON, time), told)

    def test_at_each_time(self):
        for order in some_orders() + list(varied_orders())[::3]:
            for time in range(0, len(order), 1 + len(order) // 20):
                told = web_at(order, time)
                self.assertEqual(told, plain_greatest({frozenset(piece) for piece in order[:time + 1]}))
                # The pieces up to it are those of a web.
                self.assertEqual(plain_pieces(told), {frozenset(piece) for piece in order[:time + 1]})

    def test_at_the_last_time(self):
        for web in all_webs():
            order = in_rising_order(web)
            if order:
                self.assertEqual(web_at(order, len(order) - 1), greatest(web))

    def test_more_than_twenty_pieces(self):
        self.assertEqual(web_at(LONG_ORDER, 99), [(k,) for k in range(100)])
        self.assertEqual(web_at(LONG_ORDER, 100), [(k,) for k in range(2, 100)] + [(0, 1)])
        self.assertEqual(web_at(LONG_ORDER, 199), told_in_order(LONG_ORDER[100:]))
        self.assertEqual(len(web_at(LONG_ORDER, 150)), 48 + 51)

    def test_no_number(self):
        for order in some_orders():
            for time in [-1, len(order), len(order) + 1, -len(order), -len(order) - 1, 200, 201, FAR, -FAR]:
                if not 0 <= time < len(order):
                    with self.subTest(length=len(order), time=time), self.assertRaises(NoNumber):
                        web_at(order, time)

    def test_the_order_without_pieces_has_no_time(self):
        for time in [0, 1, -1, 5, FAR]:
            with self.subTest(time=time), self.assertRaises(NoNumber):
                web_at([], time)

    def test_no_order_goes_ahead_of_no_number(self):
        for name, order in NO_ORDERS.items():
            for time in [0, len(order) - 1, len(order), -1, FAR]:
                with self.subTest(name, time=time), self.assertRaises(NoOrder):
                    web_at(list(order), time)


class OrderBy(unittest.TestCase):
    def look_at(self, web, worths):
        told = order_by(web, worths)
        self.assertEqual(told, plain_order_by(worths))
        self.assertIs(is_order(told), True)
        return told

    def test_known(self):
        self.assertEqual(self.look_at(STRETCH, {(3,): 5, (7,): 2, (3, 7): 5}), [(7,), (3,), (3, 7)])
        self.assertEqual(self.look_at(STRETCH, {(3,): -5, (7,): -2, (3, 7): -2}), [(3,), (7,), (3, 7)])
        self.assertEqual(self.look_at(STRETCH, {(3,): FAR, (7,): -FAR, (3, 7): FAR}), [(7,), (3,), (3, 7)])
        self.assertEqual(self.look_at([(1, 2), (3,)], {(1,): 1, (2,): 1, (3,): 4, (1, 2): 3}), [
            (1,), (2,), (1, 2), (3,),
        ])
        self.assertEqual(self.look_at(POINT, {(5,): -7}), [(5,)])
        self.assertEqual(order_by(EMPTY, {}), [])

    def test_of_one_worth_by_height_then_as_tuples(self):
        for web in all_webs():
            every = in_rising_order(web)
            for worth in [0, -3, FAR]:
                self.assertEqual(order_by(web, {piece: worth for piece in reversed(every)}), every)
        worths = {(1,): 0, (2,): 1, (3,): 0, (1, 2): 1, (1, 3): 1, (2, 3): 1, (1, 2, 3): 1}
        self.assertEqual(self.look_at(TRIANGLE, worths), [(1,), (3,), (2,), (1, 2), (1, 3), (2, 3), (1, 2, 3)])

    def test_worths_go_ahead_of_heights(self):
        worths = {(1,): 0, (2,): 0, (3,): 2, (1, 2): 1, (1, 3): 3, (2, 3): 2, (1, 2, 3): 3}
        self.assertEqual(self.look_at(TRIANGLE, worths), [(1,), (2,), (1, 2), (3,), (2, 3), (1, 3), (1, 2, 3)])

    def test_varied_worths(self):
        for seed, web in enumerate(some_webs()):
            for reach in [1, 4, 10 ** 20]:
                worths = varied_worths(web, seed, reach)
                self.assertEqual(self.look_at(web, worths), self.look_at(list(reversed(web)), worths))

    def test_no_worths(self):
        self.assertEqual(len(order_by(TRIANGLE, FLAT)), 7)
        for name, worths in NO_WORTHS.items():
            with self.subTest(name), self.assertRaises(NoOrder):
                order_by(TRIANGLE, dict(worths))
        for worths in [{(5,): 1}, {(): 1}]:
            with self.subTest(worths=worths), self.assertRaises(NoOrder):
                order_by(EMPTY, worths)

    def test_worths_of_another_web(self):
        with self.assertRaises(NoOrder):
            order_by(HOLLOW, FLAT)
        self.assertEqual(len(order_by(HOLLOW, {piece: 0 for piece in FLAT if len(piece) < 3})), 6)

    def test_one_piece_less_or_more_or_lower(self):
        for seed, web in enumerate([MIXED, SPHERE, FULL, PLANE]):
            worths = varied_worths(web, seed, 3)
            for piece in worths:
                with self.subTest(piece=piece), self.assertRaises(NoOrder):
                    order_by(web, {other: worth for other, worth in worths.items() if other != piece})
                lowest = {**worths, piece: min(worths.values()) - 1}
                if len(piece) > 1:
                    with self.subTest(piece=piece), self.assertRaises(NoOrder):
                        order_by(web, lowest)
                else:
                    self.look_at(web, lowest)
            with self.assertRaises(NoOrder):
                order_by(web, {**worths, (77,): 0})

    def test_each_piece_as_high_as_the_highest_rim(self):
        """The same is no less: a piece may come with its rims, but not one below any of them."""
        for web in [TRIANGLE, FULL, TORUS]:
            worths = varied_worths(web, 5, 50)
            for piece in sorted(worths, key=len):
                rims = [worths[rim] for rim in plain_rims(piece)]
                if rims:
                    others = {other: FAR if len(other) > len(piece) else worths[other] for other in worths}
                    self.look_at(web, {**others, piece: max(rims)})
                    with self.assertRaises(NoOrder):
                        order_by(web, {**others, piece: max(rims) - 1})

    def test_no_web_goes_ahead_of_no_order(self):
        for name, web in NO_WEBS.items():
            for worths in [{}, {(1,): 1}, {piece: 0 for piece in web}]:
                with self.subTest(name), self.assertRaises(NoWeb):
                    order_by(list(web), worths)


class WorthsByPoints(unittest.TestCase):
    def test_known(self):
        self.assertEqual(worths_by_points(STRETCH, {3: 5, 7: -2}), {(3,): 5, (7,): -2, (3, 7): 5})
        self.assertEqual(worths_by_points(STRETCH, {3: -5, 7: -2}), {(3,): -5, (7,): -2, (3, 7): -2})
        self.assertEqual(worths_by_points(POINT, {5: FAR}), {(5,): FAR})
        self.assertEqual(worths_by_points(EMPTY, {}), {})
        self.assertEqual(worths_by_points(TRIANGLE, {3: 1, 1: 3, 2: 2}), {
            (1,): 3, (2,): 2, (3,): 1, (1, 2): 3, (1, 3): 3, (2, 3): 2, (1, 2, 3): 3,
        })

    def test_the_greatest_of_its_points_numbers(self):
        for seed, web in enumerate(all_webs() + [NET]):
            every = points(web)
            for reach in [0, 2, 10 ** 29]:
                ages = dict(zip(reversed(every), varied_numbers(len(every), -reach, reach, seed)))
                told = worths_by_points(web, ages)
                expected = {tuple(sorted(piece)): max(ages[point] for point in piece) for piece in plain_pieces(web)}
                self.assertEqual(told, expected)
                # Those are worths by which the web grows.
                self.assertEqual(order_by(web, told), plain_order_by(told))

    def test_no_order(self):
        good = {1: 0, 2: 5, 3: -5}
        self.assertEqual(len(worths_by_points(TRIANGLE, good)), 7)
        for ages in [
            {}, {1: 0}, {1: 0, 2: 5}, {2: 5, 3: -5}, {1: 0, 3: -5}, {**good, 4: 0}, {**good, 0: 0}, {**good, -1: 1},
            {**good, 100: 1}, {**good, FAR: 1}, {1: 0, 2: 5, 4: -5}, {0: 0, 1: 5, 2: -5},
        ]:
            with self.subTest(ages=ages), self.assertRaises(NoOrder):
                worths_by_points(TRIANGLE, ages)
        with self.assertRaises(NoOrder):
            worths_by_points(EMPTY, {0: 0})

    def test_tuples_are_no_points(self):
        for ages in [{(1,): 0, (2,): 0, (3,): 0}, {1: 0, 2: 0, 3: 0, (3,): 0}, {1: 0, 2: 0, (3,): 0}, FLAT]:
            with self.subTest(ages=ages), self.assertRaises(NoOrder):
                worths_by_points(TRIANGLE, ages)

    def test_no_web_goes_ahead_of_no_order(self):
        for name, web in NO_WEBS.items():
            for ages in [{}, {1: 1}, {-1: 0}, {point: 0 for piece in web for point in piece}]:
                with self.subTest(name), self.assertRaises(NoWeb):
                    worths_by_points(list(web), ages)


class OwnOrders(Owned, unittest.TestCase):
    def cases(self):
        for order in some_orders() + [NO_ORDERS["a piece twice"], NO_ORDERS["points falling"]]:
            yield is_order, (list(order),)
        for order in some_orders():
            for time in sorted({0, len(order) // 2, len(order) - 1}):
                if order:
                    yield web_at, (list(order), time)
        for seed, web in enumerate([EMPTY, POINT, STRETCH, TRIANGLE, MIXED, TORUS]):
            self.assertIs(is_web(web), True)
            yield order_by, (list(web), varied_worths(web, seed, 3))
            yield worths_by_points, (list(web), {point: 50 - point for point in points(web)})

    def test_refused_ones_are_the_same_behind(self):
        for function, handed, error in [
            (order_by, (list(TRIANGLE), dict(NO_WORTHS["a point too many"])), NoOrder),
            (worths_by_points, (list(TRIANGLE), {1: 4, 2: 5}), NoOrder),
            (web_at, (list(NO_ORDERS["points falling"]), 0), NoOrder), (web_at, (list(SOON), 7), NoNumber),
        ]:
            before = repr(handed)
            with self.assertRaises(error):
                function(*handed)
            self.assertEqual(repr(handed), before)

    def test_all_pieces_of_an_order_are_those_of_the_web(self):
        for seed, web in enumerate(some_webs()):
            told = order_by(web, varied_worths(web, seed, 2))
            self.assertEqual(told_in_order(told), pieces(web))


if __name__ == "__main__":
    unittest.main()
