import unittest
from itertools import permutations

from seamwright.errors import NoPiece, NoPush, NoWeb
from seamwright.holes import holes
from seamwright.pushing import free_pairs, is_pushed, pushed, pushes
from seamwright.webs import balance, greatest

from owned import Owned
from samples import (
    BAND, EMPTY, FULL, HOLES, HOLLOW, HUNG, MIXED, NET, NO_WEBS, PLANE, POINT, SPHERE, STRETCH, THREEFOLD, TORUS,
    TRIANGLE, TWENTY_POINTS, TWO_HUNDRED, TWO_RINGS, all_webs, holes_by_prime, plain_greatest, plain_pairs,
    plain_pieces, some_webs, told_in_order, webs_with_holes,
)

HEIGHTS = range(5)
FAR = 10 ** 30 - 1

FREE = [
    ("no pieces", EMPTY, []),
    ("a point", POINT, []),
    ("points", TWENTY_POINTS, []),
    ("a stretch", STRETCH, [((3,), (3, 7)), ((7,), (3, 7))]),
    ("a triangle", TRIANGLE, [((1, 2), (1, 2, 3)), ((1, 3), (1, 2, 3)), ((2, 3), (1, 2, 3))]),
    ("a ball", FULL, [
        ((0, 1, 50, 98), FULL[0]), ((0, 1, 50, 99), FULL[0]), ((0, 1, 98, 99), FULL[0]),
        ((0, 50, 98, 99), FULL[0]), ((1, 50, 98, 99), FULL[0]),
    ]),
    ("a ring", HOLLOW, []),
    ("two rings", TWO_RINGS, []),
    ("a sphere", SPHERE, []),
    ("a torus", TORUS, []),
    ("a plane", PLANE, []),
    ("parts apart", MIXED, [
        ((4,), (3, 4)), ((8,), (8, 9)), ((9,), (8, 9)),
        ((1, 2), (1, 2, 3)), ((1, 3), (1, 2, 3)), ((2, 3), (1, 2, 3)),
    ]),
    ("a plane with more hung to it", HUNG, [((9,), (2, 9)), ((0, 6), (0, 1, 6)), ((1, 6), (0, 1, 6))]),
    ("a plane without a triangle", BAND, [((0, 1), (0, 1, 5)), ((0, 2), (0, 2, 3)), ((1, 2), (1, 2, 4))]),
    ("a path", [(1, 2), (0, 2)], [((0,), (0, 2)), ((1,), (1, 2))]),
    ("two triangles on one stretch", [(0, 1, 2), (1, 2, 3)], [
        ((0, 1), (0, 1, 2)), ((0, 2), (0, 1, 2)), ((1, 3), (1, 2, 3)), ((2, 3), (1, 2, 3)),
    ]),
]


def plain_free(sets):
    """The free pairs of all pieces of a web, by looking at all in which each of them lies."""
    told = []
    for piece in told_in_order(sets):
        around = [other for other in sets if set(piece) < other]
        if len(around) == 1 and len(around[0]) == len(piece) + 1:
            told.append((piece, tuple(sorted(around[0]))))
    return told


def taken_out(sets, pair):
    return sets - {frozenset(piece) for piece in pair}


def plain_is_pushed(web, pairs, other):
    left = plain_pieces(web)
    for pair in pairs:
        if pair not in plain_free(left):
            return False
        left = taken_out(left, pair)
    return left == plain_pieces(other)


def webs_to_push():
    return all_webs() + webs_with_holes()


class FreePairs(unittest.TestCase):
    def test_known(self):
        for name, web, pairs in FREE:
            with self.subTest(name):
                self.assertEqual(free_pairs(web), pairs)

    def test_as_by_plain_sets(self):
        found = 0
        for web in webs_to_push():
            told = free_pairs(web)
            self.assertEqual(told, plain_free(plain_pieces(web)))
            found += len(told)
        self.assertGreater(found, 200)

    def test_by_the_web_and_not_by_the_list(self):
        for name, web, pairs in FREE:
            with self.subTest(name):
                self.assertEqual(free_pairs(list(reversed(web))), pairs)
        self.assertEqual(free_pairs(TRIANGLE + [(1, 2), (3,)]), free_pairs(TRIANGLE))

    def test_no_web(self):
        for name, web in NO_WEBS.items():
            with self.subTest(name), self.assertRaises(NoWeb):
                free_pairs(list(web))


class Pushed(unittest.TestCase):
    def test_known(self):
        self.assertEqual(pushed(STRETCH, (3,)), [(7,)])
        self.assertEqual(pushed(STRETCH, (7,)), [(3,)])
        self.assertEqual(pushed(TRIANGLE, (1, 3)), [(1, 2), (2, 3)])
        self.assertEqual(pushed(MIXED, (4,)), [(7,), (8, 9), (1, 2, 3)])
        self.assertEqual(pushed(MIXED, (9,)), [(7,), (8,), (3, 4), (1, 2, 3)])
        self.assertEqual(pushed(MIXED, (2, 3)), [(7,), (1, 2), (1, 3), (3, 4), (8, 9)])
        self.assertEqual(pushed(FULL, (0, 1, 50, 98)), [
            (0, 1, 50, 99), (0, 1, 98, 99), (0, 50, 98, 99), (1, 50, 98, 99),
        ])

    def test_each_free_pair(self):
        for web in webs_to_push():
            for pair in free_pairs(web):
                left = taken_out(plain_pieces(web), pair)
                told = pushed(web, pair[0])
                self.assertEqual(told, plain_greatest(left))
                # What is left is a web: each part of a piece of it is one, too.
                self.assertEqual(plain_pieces(told), left)

    def test_no_push_of_the_other_pieces(self):
        for web in webs_to_push():
            firsts = [pair[0] for pair in plain_free(plain_pieces(web))]
            for piece in told_in_order(plain_pieces(web)):
                if piece not in firsts:
                    with self.subTest(web=web, piece=piece), self.assertRaises(NoPush):
                        pushed(web, piece)

    def test_no_push_of_a_second_piece(self):
        for web, piece in [(STRETCH, (3, 7)), (TRIANGLE, (1, 2, 3)), (FULL, FULL[0]), (MIXED, (3, 4))]:
            with self.subTest(piece=piece), self.assertRaises(NoPush):
                pushed(web, piece)

    def test_no_piece_goes_ahead_of_no_push(self):
        for web in [EMPTY, POINT, STRETCH, MIXED, SPHERE, PLANE]:
            for piece in [(), (77,), (0, 88), (2, 1), (3, 3), (-1,), (100,), (1, 2, 3, 4, 5, 6), (FAR, FAR), (-FAR,)]:
                with self.subTest(web=web, piece=piece), self.assertRaises(NoPiece):
                    pushed(web, piece)
        with self.assertRaises(NoPiece):
            pushed(HOLLOW, (1, 2, 3))

    def test_no_web_goes_ahead_of_all(self):
        for name, web in NO_WEBS.items():
            for piece in [web[0], (1,), (), (77, 78)]:
                with self.subTest(name, piece=piece), self.assertRaises(NoWeb):
                    pushed(list(web), piece)


class Pushes(unittest.TestCase):
    def look_at(self, web):
        """Each pair is free in what the ones ahead leave, and none behind the last one."""
        row, left = pushes(web)
        rest = plain_pieces(web)
        for pair in row:
            self.assertIn(pair, plain_free(rest))
            rest = taken_out(rest, pair)
        self.assertEqual(plain_free(rest), [])
        self.assertEqual(left, plain_greatest(rest))
        return row, left

    def test_all(self):
        found = 0
        for web in webs_to_push():
            found += len(self.look_at(web)[0])
        self.assertGreater(found, 500)

    def test_nothing_to_push(self):
        for web in [EMPTY, POINT, HOLLOW, SPHERE, TORUS, PLANE, TWENTY_POINTS, TWO_RINGS]:
            self.assertEqual(pushes(web), ([], greatest(web)))

    def test_balls_come_to_points(self):
        for web, shares in [(STRETCH, 1), (TRIANGLE, 1), (MIXED, 3), (TWO_HUNDRED, 8)]:
            row, left = self.look_at(web)
            self.assertEqual([len(piece) for piece in left], [1] * shares)
            self.assertEqual(len(row), (len(plain_pieces(web)) - shares) // 2)

    def test_a_plane_loses_what_is_hung_to_it(self):
        row, left = self.look_at(HUNG)
        self.assertEqual((len(row), left), (3, sorted(PLANE)))

    def test_holes_are_kept(self):
        for name, web, told in HOLES:
            left = self.look_at(web)[1]
            if len(left) <= 20:
                for height in HEIGHTS:
                    with self.subTest(name, height=height):
                        self.assertEqual(holes(left, height), told[height])

    def test_holes_by_primes_are_kept(self):
        """Of webs, too, that have more greatest pieces behind the pushes than a web that is handed in."""
        for web in some_webs():
            left = pushes(web)[1]
            for prime in [2, 3, 5, 97]:
                for height in HEIGHTS:
                    self.assertEqual(holes_by_prime(left, height, prime), holes_by_prime(web, height, prime))

    def test_the_balance_is_kept(self):
        for web in webs_to_push():
            sizes = [len(piece) for piece in plain_pieces(pushes(web)[1])]
            self.assertEqual(sum((-1) ** (size + 1) for size in sizes), balance(web))

    def test_more_than_twenty_pieces_may_be_left(self):
        row, left = self.look_at(NET)
        self.assertEqual(len(row), 12)
        self.assertEqual([len(piece) for piece in left], [2] * 24)

    def test_no_web(self):
        for name, web in NO_WEBS.items():
            with self.subTest(name), self.assertRaises(NoWeb):
                pushes(list(web))


class IsPushed(unittest.TestCase):
    def look_at(self, web, pairs, other):
        told = is_pushed(web, pairs, other)
        self.assertIs(told, plain_is_pushed(web, pairs, other))
        return told

    def test_told_rows(self):
        for web in webs_to_push():
            row, left = pushes(web)
            if len(left) <= 20:
                self.assertIs(is_pushed(web, row, left), True)
                self.assertIs(is_pushed(list(reversed(web)), list(row), list(reversed(left))), True)

    def test_no_pushes(self):
        for web in webs_to_push():
            self.assertIs(is_pushed(web, [], web), True)
        self.assertIs(is_pushed(STRETCH, [], [(3,)]), False)
        self.assertIs(is_pushed(HOLLOW, [], TRIANGLE), False)
        self.assertIs(is_pushed(TRIANGLE, [], HOLLOW), False)
        self.assertIs(is_pushed(EMPTY, [], EMPTY), True)
        self.assertIs(is_pushed(EMPTY, [], POINT), False)
        self.assertIs(is_pushed(POINT, [], EMPTY), False)

    def test_each_start_of_a_row(self):
        """Pushes need not go on until none is free."""
        for web in [STRETCH, TRIANGLE, MIXED, FULL, HUNG, BAND]:
            row = pushes(web)[0]
            left = plain_pieces(web)
            for count, pair in enumerate(row):
                other = plain_greatest(left)
                self.assertIs(is_pushed(web, row[:count], other), True)
                self.assertIs(is_pushed(web, row[:count + 1], other), False)
                left = taken_out(left, pair)

    def test_the_other_web_told_otherwise(self):
        pair = ((1, 3), (1, 2, 3))
        self.assertIs(is_pushed(TRIANGLE, [pair], [(1, 2), (2, 3)]), True)
        self.assertIs(is_pushed(TRIANGLE, [pair], [(2, 3), (3,), (1, 2), (2,)]), True)
        self.assertIs(is_pushed(TRIANGLE, [pair], [(2, 3), (1,), (1, 2), (3,), (2,)]), True)

    def test_another_web(self):
        pair = ((1, 3), (1, 2, 3))
        for other in [
            EMPTY, TRIANGLE, HOLLOW, [(1, 2), (1, 3)], [(1, 2)], [(1, 2), (2, 3), (4,)], [(1, 2), (3,)],
            [(1,), (2,), (3,)],
        ]:
            with self.subTest(other=other):
                self.assertIs(is_pushed(TRIANGLE, [pair], other), False)
        self.assertIs(is_pushed(STRETCH, [((3,), (3, 7))], [(3,)]), False)

    def test_a_pair_left_out_or_twice_or_turned_about(self):
        for web in [STRETCH, TRIANGLE, MIXED, FULL, HUNG, [(0, 1, 2), (2, 3, 4)]]:
            row, left = pushes(web)
            for k, pair in enumerate(row):
                self.assertIs(is_pushed(web, row[:k] + row[k + 1:], left), False)
                self.assertIs(is_pushed(web, row[:k] + [pair] + row[k:], left), False)
                self.assertIs(is_pushed(web, row + [pair], left), False)
                self.assertIs(is_pushed(web, row[:k] + [(pair[1], pair[0])] + row[k + 1:], left), False)

    def test_put_elsewhere(self):
        found = [0, 0]
        for web in [TRIANGLE, MIXED, [(0, 1, 2), (2, 3, 4)], [(0, 1, 2, 3)], HUNG]:
            row, left = pushes(web)
            for some in permutations(row[:4]):
                told = self.look_at(web, list(some) + row[4:], left)
                found[told] += 1
            for k in range(len(row)):
                for place in range(len(row)):
                    moved = row[:k] + row[k + 1:]
                    self.look_at(web, moved[:place] + [row[k]] + moved[place:], left)
        self.assertGreater(min(found), 3)

    def test_each_pair_of_the_web(self):
        """Pairs that aren't free leave nothing, even where what is behind them would be the other web."""
        for web in [STRETCH, TRIANGLE, HOLLOW, MIXED, SPHERE, PLANE, THREEFOLD]:
            for pair in plain_pairs(web):
                left = plain_greatest(taken_out(plain_pieces(web), pair))
                if len(left) <= 20:
                    self.look_at(web, [pair], left)
        self.assertIs(is_pushed(HOLLOW, [((1,), (1, 2))], [(1, 3), (2, 3)]), False)

    def test_tuples_that_are_no_pairs(self):
        for pair in [
            ((), ()), ((), (3,)), ((3,), (3,)), ((3, 7), (3, 7)), ((3,), (7,)), ((7,), (7, 3)), ((3,), (3, 7, 8)),
            ((77,), (77, 78)), ((-1,), (-1, 3)), ((3,), (3, 100)), ((3, 7), (3,)), ((3, 3), (3, 3, 7)),
            ((FAR,), (-FAR,)), ((1, 2, 3, 4, 5), (1, 2, 3, 4, 5, 6)),
        ]:
            for other in [STRETCH, [(7,)], [(3,)], EMPTY]:
                with self.subTest(pair=pair, other=other):
                    self.assertIs(is_pushed(STRETCH, [pair], other), False)
            self.assertIs(is_pushed(STRETCH, [((3,), (3, 7)), pair], [(7,)]), False)
            self.assertIs(is_pushed(EMPTY, [pair], EMPTY), False)

    def test_a_hundred_tuples(self):
        pair = ((3,), (3, 7))
        self.assertIs(is_pushed(STRETCH, [pair] * 100, [(7,)]), False)
        row, left = pushes(TWO_HUNDRED)
        self.assertEqual(len(row), 96)
        self.assertIs(is_pushed(TWO_HUNDRED, row, left), True)
        self.assertIs(is_pushed(TWO_HUNDRED, row[:-1], left), False)

    def test_no_web_of_the_first_and_of_the_second(self):
        for name, web in NO_WEBS.items():
            for pairs in [[], [((3,), (3, 7))], [((), ())], [((77,), (1,))] * 3]:
                with self.subTest(name, pairs=pairs), self.assertRaises(NoWeb):
                    is_pushed(list(web), pairs, STRETCH)
                with self.subTest(name, pairs=pairs), self.assertRaises(NoWeb):
                    is_pushed(STRETCH, pairs, list(web))
                with self.subTest(name, pairs=pairs), self.assertRaises(NoWeb):
                    is_pushed(list(web), pairs, list(web))

    def test_more_than_twenty_pieces_are_no_web_here_either(self):
        row, left = pushes(NET)
        with self.assertRaises(NoWeb):
            is_pushed(NET, row, left)


class OwnPushes(Owned, unittest.TestCase):
    def cases(self):
        for web in [EMPTY, POINT, STRETCH, TRIANGLE, MIXED, FULL, SPHERE, PLANE, HUNG, NET]:
            yield free_pairs, (list(web),)
            yield pushes, (list(web),)
            for pair in free_pairs(web):
                yield pushed, (list(web), pair[0])
            row, left = pushes(web)
            if len(left) <= 20:
                yield is_pushed, (list(web), row, left)
            yield is_pushed, (list(web), row, list(web))

    def test_refused_lists_are_the_same_behind(self):
        for web, piece, error in [
            (MIXED, (77,), NoPiece), (MIXED, (1,), NoPush), (NO_WEBS["points falling"], (1,), NoWeb),
        ]:
            handed = list(web)
            with self.assertRaises(error):
                pushed(handed, piece)
            self.assertEqual(handed, web)


if __name__ == "__main__":
    unittest.main()
