import unittest

from seamwright import webs
from seamwright.errors import NoPiece, NoWeb

from samples import (
    EMPTY, FULL, HOLLOW, MIXED, NO_WEBS, PLANE, POINT, SPHERE, STRETCH, TORUS, TRIANGLE,
    TWENTY_POINTS, TWO_HUNDRED, all_webs, plain_greatest, plain_pieces, told_in_order,
)

OF_A_WEB = ["pieces", "greatest", "points", "height", "counts", "balance", "shares"]
ABOUT_A_PIECE = ["star", "link", "without"]


class IsWeb(unittest.TestCase):
    def test_webs(self):
        for web in all_webs():
            self.assertIs(webs.is_web(web), True, web)

    def test_no_webs(self):
        for name, web in NO_WEBS.items():
            with self.subTest(name):
                self.assertIs(webs.is_web(web), False)

    def test_0_20_and_21_pieces(self):
        self.assertIs(webs.is_web([]), True)
        self.assertIs(webs.is_web([(k,) for k in range(20)]), True)
        self.assertIs(webs.is_web([(k,) for k in range(21)]), False)

    def test_21_pieces_that_are_parts_of_one_are_too_many(self):
        told = webs.pieces([(1, 2, 3, 4, 5)])
        self.assertIs(webs.is_web(told[-20:]), True)
        self.assertIs(webs.is_web(told[-21:]), False)

    def test_200_pieces_and_more(self):
        self.assertEqual(len(webs.pieces(TWO_HUNDRED)), 200)
        self.assertIs(webs.is_web(TWO_HUNDRED + [(36,)]), False)
        self.assertIs(webs.is_web(TWO_HUNDRED + [(30, 33)]), False)
        # Parts of what is there bring no more pieces.
        self.assertIs(webs.is_web(TWO_HUNDRED + [(30,), (0, 1, 2)]), True)

    def test_a_piece_twice_and_parts_beside(self):
        self.assertIs(webs.is_web([(1, 2), (1, 2)]), False)
        self.assertIs(webs.is_web([(1, 2), (1,), (2,)]), True)

    def test_points_at_the_edges(self):
        self.assertIs(webs.is_web([(0,), (99,), (0, 99)]), True)
        for point in [-1, 100, 10 ** 29, -(10 ** 29)]:
            self.assertIs(webs.is_web([(point,)]), False, point)
            self.assertIs(webs.is_web([tuple(sorted([point, 50]))]), False, point)

    def test_tuples_of_no_point_of_five_and_of_six(self):
        self.assertIs(webs.is_web([()]), False)
        self.assertIs(webs.is_web([(1, 2, 3, 4, 5)]), True)
        self.assertIs(webs.is_web([(1, 2, 3, 4, 5, 6)]), False)


class Refusals(unittest.TestCase):
    def test_each_function_refuses_what_is_no_web(self):
        for name, web in NO_WEBS.items():
            for function in OF_A_WEB:
                with self.subTest(name, function=function), self.assertRaises(NoWeb):
                    getattr(webs, function)(list(web))

    def test_no_web_goes_ahead_of_no_piece(self):
        for name, web in NO_WEBS.items():
            for function in ABOUT_A_PIECE:
                for piece in [web[0], (77,), ()]:
                    with self.subTest(name, function=function, piece=piece), self.assertRaises(NoWeb):
                        getattr(webs, function)(list(web), piece)

    def test_no_piece(self):
        others = [(), (9,), (1, 4), (2, 1), (1, 1), (100,), (-1,), (1, 2, 3, 4), (1, 2, 3, 4, 5, 6)]
        for function in ABOUT_A_PIECE:
            for piece in others:
                with self.subTest(function, piece=piece), self.assertRaises(NoPiece):
                    getattr(webs, function)([(1, 2, 3), (4, 5)], piece)
            with self.subTest(function), self.assertRaises(NoPiece):
                getattr(webs, function)([], (0,))

    def test_is_same_refuses_either(self):
        for name, web in NO_WEBS.items():
            with self.subTest(name):
                with self.assertRaises(NoWeb):
                    webs.is_same(list(web), [(1,)])
                with self.assertRaises(NoWeb):
                    webs.is_same([(1,)], list(web))
                with self.assertRaises(NoWeb):
                    webs.is_same(list(web), list(web))


class Told(unittest.TestCase):
    def test_order_of_pieces(self):
        self.assertEqual(
            webs.pieces([(2, 10), (1, 3, 9), (50,)]),
            [(1,), (2,), (3,), (9,), (10,), (50,), (1, 3), (1, 9), (2, 10), (3, 9), (1, 3, 9)],
        )

    def test_pieces_and_greatest_as_by_plain_sets(self):
        for web in all_webs():
            plain = plain_pieces(web)
            self.assertEqual(webs.pieces(web), told_in_order(plain))
            self.assertEqual(webs.greatest(web), plain_greatest(plain))

    def test_order_of_greatest_pieces(self):
        self.assertEqual(webs.greatest(MIXED), [(7,), (3, 4), (8, 9), (1, 2, 3)])
        self.assertEqual(webs.greatest([(1, 2), (2,), (1, 2, 3), (3,)]), [(1, 2, 3)])
        self.assertEqual(webs.greatest([(10, 11), (9,), (2, 11)]), [(9,), (2, 11), (10, 11)])

    def test_points(self):
        self.assertEqual(webs.points(EMPTY), [])
        self.assertEqual(webs.points(FULL), [0, 1, 50, 98, 99])
        self.assertEqual(webs.points([(40,), (10, 39), (9, 10, 11)]), [9, 10, 11, 39, 40])

    def test_height(self):
        for web, told in [(EMPTY, -1), (POINT, 0), (STRETCH, 1), (MIXED, 2), (FULL, 4)]:
            self.assertEqual(webs.height(web), told)
        self.assertEqual(webs.height([(1, 2, 3, 4), (5,)]), 3)

    def test_counts(self):
        cases = [
            (EMPTY, []), (POINT, [1]), (STRETCH, [2, 1]), (TRIANGLE, [3, 3, 1]), (HOLLOW, [3, 3]),
            (MIXED, [7, 5, 1]), (FULL, [5, 10, 10, 5, 1]), (SPHERE, [4, 6, 4]), (TORUS, [7, 21, 14]),
            (PLANE, [6, 15, 10]), (TWENTY_POINTS, [20]),
        ]
        for web, told in cases:
            self.assertEqual(webs.counts(web), told)

    def test_balance(self):
        cases = [
            (EMPTY, 0), (POINT, 1), (STRETCH, 1), (TRIANGLE, 1), (HOLLOW, 0), (MIXED, 3), (FULL, 1),
            (SPHERE, 2), (TORUS, 0), (PLANE, 1), (TWENTY_POINTS, 20), (TWO_HUNDRED, 8),
            ([(0, 1), (0, 2), (1, 2), (0, 3), (1, 3)], -1),
        ]
        for web, told in cases:
            self.assertEqual(webs.balance(web), told)

    def test_is_same(self):
        self.assertIs(webs.is_same([], []), True)
        self.assertIs(webs.is_same([(1, 2), (3,)], [(3,), (1, 2)]), True)
        self.assertIs(webs.is_same([(1, 2, 3)], [(1, 2, 3), (1,), (2, 3)]), True)
        self.assertIs(webs.is_same(TRIANGLE, webs.pieces(TRIANGLE)), True)
        self.assertIs(webs.is_same(TRIANGLE, HOLLOW), False)
        self.assertIs(webs.is_same(HOLLOW, TRIANGLE), False)
        self.assertIs(webs.is_same([], [(0,)]), False)
        self.assertIs(webs.is_same([(0,)], [(1,)]), False)
        # As many pieces of each height, and of the same points.
        self.assertIs(webs.is_same([(1, 2), (2, 3)], [(1, 2), (1, 3)]), False)


class AboutAPiece(unittest.TestCase):
    def test_about_a_point(self):
        self.assertEqual(webs.star(MIXED, (3,)), [(3, 4), (1, 2, 3)])
        self.assertEqual(webs.link(MIXED, (3,)), [(4,), (1, 2)])
        self.assertEqual(webs.without(MIXED, (3,)), [(4,), (7,), (1, 2), (8, 9)])

    def test_about_greater_pieces(self):
        self.assertEqual(webs.star(SPHERE, (0, 1)), [(0, 1, 2), (0, 1, 3)])
        self.assertEqual(webs.link(SPHERE, (0, 1)), [(2,), (3,)])
        self.assertEqual(webs.without(SPHERE, (0, 1)), [(0, 2, 3), (1, 2, 3)])
        self.assertEqual(webs.star(TRIANGLE, (1, 2, 3)), [(1, 2, 3)])
        self.assertEqual(webs.link(TRIANGLE, (1, 2, 3)), [])
        self.assertEqual(webs.without(TRIANGLE, (1, 2, 3)), [(1, 2), (1, 3), (2, 3)])

    def test_about_a_point_alone(self):
        self.assertEqual(webs.star(POINT, (5,)), [(5,)])
        self.assertEqual(webs.link(POINT, (5,)), [])
        self.assertEqual(webs.without(POINT, (5,)), [])
        self.assertEqual(webs.without(MIXED, (7,)), [(3, 4), (8, 9), (1, 2, 3)])

    def test_the_link_goes_in_order(self):
        self.assertEqual(webs.link([(1, 5, 9), (2, 3, 5), (4, 5)], (5,)), [(4,), (1, 9), (2, 3)])
        self.assertEqual(webs.link([(0, 7), (3, 5, 7), (1, 7), (2, 7, 9)], (7,)), [(0,), (1,), (2, 9), (3, 5)])
        self.assertEqual(webs.link([(2, 9, 30), (3, 4, 9), (9, 10, 20)], (9,)), [(2, 30), (3, 4), (10, 20)])

    def test_as_the_document_says_by_plain_sets(self):
        for web in all_webs():
            plain = plain_pieces(web)
            for piece in told_in_order(plain):
                near = {other for other in plain if other | set(piece) in plain}
                apart = {other for other in near if not other & set(piece)}
                left = {other for other in plain if not other >= set(piece)}
                self.assertEqual(webs.star(web, piece), plain_greatest(near))
                self.assertEqual(webs.link(web, piece), plain_greatest(apart))
                self.assertEqual(webs.without(web, piece), plain_greatest(left))

    def test_more_than_twenty_greatest_pieces_are_told(self):
        web = [(1, 2, 3, 4, 5), (1, 6, 7, 8, 9), (1, 10, 11, 12, 13)] + [(k,) for k in range(20, 37)]
        self.assertEqual(len(web), 20)
        told = webs.without(web, (2, 3))
        self.assertEqual(len(told), 21)
        self.assertEqual(told[-4:], [(1, 2, 4, 5), (1, 3, 4, 5), (1, 6, 7, 8, 9), (1, 10, 11, 12, 13)])
        self.assertIs(webs.is_web(told), False)


class Shares(unittest.TestCase):
    def test_no_pieces(self):
        self.assertEqual(webs.shares(EMPTY), [])

    def test_one_share(self):
        self.assertEqual(webs.shares(POINT), [[5]])
        self.assertEqual(webs.shares(FULL), [[0, 1, 50, 98, 99]])
        self.assertEqual(webs.shares(TORUS), [[0, 1, 2, 3, 4, 5, 6]])

    def test_single_points(self):
        self.assertEqual(webs.shares([(9,), (2,), (10,)]), [[2], [9], [10]])

    def test_several_shares(self):
        self.assertEqual(webs.shares(MIXED), [[1, 2, 3, 4], [7], [8, 9]])
        self.assertEqual(webs.shares([(2, 40), (1, 50), (3, 60)]), [[1, 50], [2, 40], [3, 60]])

    def test_a_long_way_about(self):
        self.assertEqual(webs.shares([(1, 9), (2, 9), (2, 8), (3, 8), (4, 7), (5,)]), [[1, 2, 3, 8, 9], [4, 7], [5]])
        self.assertEqual(webs.shares([(k, k + 1) for k in range(20)]), [list(range(21))])
        self.assertEqual(webs.shares([(0, 4), (1, 3), (2, 4), (2, 3)]), [[0, 1, 2, 3, 4]])

    def test_as_by_plain_sets(self):
        for web in all_webs():
            parted = [{point} for point in webs.points(web)]
            for piece in web:
                touched = [share for share in parted if share & set(piece)]
                parted = [share for share in parted if not share & set(piece)] + [set().union(*touched)]
            self.assertEqual(webs.shares(web), sorted(sorted(share) for share in parted))


class OwnLists(unittest.TestCase):
    def calls(self):
        for function in OF_A_WEB + ["is_web"]:
            yield function, (list(MIXED),)
        for function in ABOUT_A_PIECE:
            yield function, (list(MIXED), (3,))
        yield "is_same", (list(MIXED), list(TRIANGLE))

    def test_what_is_handed_in_is_the_same_behind(self):
        for function, handed in self.calls():
            with self.subTest(function):
                before = [list(one) for one in handed]
                getattr(webs, function)(*handed)
                self.assertEqual([list(one) for one in handed], before)

    def test_refused_lists_are_the_same_behind(self):
        for name, web in NO_WEBS.items():
            handed = list(web)
            webs.is_web(handed)
            with self.subTest(name), self.assertRaises(NoWeb):
                webs.pieces(handed)
            self.assertEqual(handed, web)

    def test_what_was_told_may_be_changed(self):
        for function, handed in self.calls():
            told = getattr(webs, function)(*handed)
            if not isinstance(told, list):
                continue
            with self.subTest(function):
                again = getattr(webs, function)(*handed)
                shape = repr(again)
                told.append("more")
                told.reverse()
                self.assertEqual(repr(again), shape)
                self.assertEqual(repr(getattr(webs, function)(*handed)), shape)
                self.assertEqual(handed[0], MIXED)

    def test_the_handed_list_may_be_changed_behind(self):
        for web in [EMPTY, POINT, [(7,), (1, 2)], webs.pieces(TRIANGLE)]:
            for function in ["pieces", "greatest", "points", "counts", "shares"]:
                with self.subTest(function, web=web):
                    handed = list(web)
                    told = getattr(webs, function)(handed)
                    shape = repr(told)
                    handed.append((60, 61))
                    self.assertEqual(repr(told), shape)
                    self.assertEqual(getattr(webs, function)(handed), getattr(webs, function)(list(handed)))
                    self.assertNotEqual(repr(getattr(webs, function)(handed)), shape)

    def test_shares_are_lists_of_their_own(self):
        told = webs.shares(MIXED)
        told[0].append(70)
        self.assertEqual(told, [[1, 2, 3, 4, 70], [7], [8, 9]])
        told[1].clear()
        self.assertEqual(told, [[1, 2, 3, 4, 70], [], [8, 9]])
        self.assertEqual(webs.shares(MIXED), [[1, 2, 3, 4], [7], [8, 9]])


if __name__ == "__main__":
    unittest.main()
