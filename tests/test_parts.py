import unittest

from seamwright.parts import is_piece, parts_of, rims_of

from samples import all_webs, plain_pieces, told_in_order


class Parts(unittest.TestCase):
    def test_pieces(self):
        for numbers in [(0,), (99,), (0, 99), (1, 2, 3), (1, 2, 3, 4, 5)]:
            self.assertIs(is_piece(numbers), True, numbers)
        for numbers in [(), (-1,), (100,), (2, 1), (1, 1), (1, 200, 3), (0, 1, 2, 3, 4, 5)]:
            self.assertIs(is_piece(numbers), False, numbers)

    def test_parts_hold_the_piece_itself_and_no_empty_tuple(self):
        self.assertEqual(parts_of((4,)), [(4,)])
        self.assertEqual(
            sorted(parts_of((1, 5, 9))),
            [(1,), (1, 5), (1, 5, 9), (1, 9), (5,), (5, 9), (9,)],
        )
        self.assertEqual(len(parts_of((1, 2, 3, 4, 5))), 31)

    def test_parts_as_by_plain_sets(self):
        for web in all_webs():
            for piece in web:
                told = sorted(parts_of(piece), key=lambda part: (len(part), part))
                self.assertEqual(told, told_in_order(plain_pieces([piece])))

    def test_rims_have_one_point_less(self):
        self.assertEqual(rims_of((4,)), [])
        self.assertEqual(rims_of((4, 6)), [(6,), (4,)])
        self.assertEqual(rims_of((1, 5, 9)), [(5, 9), (1, 9), (1, 5)])


if __name__ == "__main__":
    unittest.main()
