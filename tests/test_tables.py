import unittest

from seamwright.errors import NoTable
from seamwright.tables import is_table, product, turned_over

from samples import NO_TABLES, plain_product, varied_table, width

FAR = 10 ** 30 - 1

TABLES = {
    "no rows": [],
    "a row without numbers": [[]],
    "rows without numbers": [[], [], []],
    "40 rows without numbers": [[] for k in range(40)],
    "one number": [[5]],
    "far numbers": [[FAR, -FAR], [0, 1]],
    "one row": [[1, 2, 3]],
    "one column": [[1], [2], [3]],
    "40 rows": [[k] for k in range(40)],
    "40 columns": [list(range(40))],
    "40 rows and columns": varied_table(40, 40),
}

SIZES = [0, 1, 2, 3, 5]


def some_tables():
    """Tables of all sizes of SIZES; one without rows has no columns."""
    sizes = [(rows, columns) for rows in SIZES for columns in SIZES if rows > 0 or columns == 0]
    return [varied_table(rows, columns, 10 * rows + columns) for rows, columns in sizes]


class IsTable(unittest.TestCase):
    def test_tables(self):
        for name, table in TABLES.items():
            with self.subTest(name):
                self.assertIs(is_table(table), True)

    def test_no_tables(self):
        for name, table in NO_TABLES.items():
            with self.subTest(name):
                self.assertIs(is_table(table), False)


class Product(unittest.TestCase):
    def test_ordinary(self):
        self.assertEqual(product([[1, 2], [3, 4]], [[5, 6], [7, 8]]), [[19, 22], [43, 50]])
        self.assertEqual(product([[5, 6], [7, 8]], [[1, 2], [3, 4]]), [[23, 34], [31, 46]])
        self.assertEqual(product([[1, -2, 3]], [[4], [5], [6]]), [[12]])
        self.assertEqual(product([[4], [5], [6]], [[1, -2, 3]]), [[4, -8, 12], [5, -10, 15], [6, -12, 18]])
        self.assertEqual(product([[2]], [[-3]]), [[-6]])

    def test_far_numbers(self):
        self.assertEqual(product([[FAR, FAR]], [[FAR], [FAR]]), [[2 * FAR * FAR]])
        self.assertEqual(product([[FAR, FAR]], [[FAR], [-FAR]]), [[0]])
        told = [[FAR]]
        for turn in range(6):
            told = product(told, told)
        self.assertEqual(told, [[FAR ** 64]])

    def test_without_rows_or_columns(self):
        self.assertEqual(product([], []), [])
        self.assertEqual(product([[]], []), [[]])
        self.assertEqual(product([[], [], []], []), [[], [], []])
        self.assertEqual(product([[1, 2]], [[], []]), [[]])
        self.assertEqual(product([[1], [2], [3]], [[]]), [[], [], []])

    def test_all_sizes(self):
        for one in some_tables():
            for other in some_tables():
                with self.subTest(one=one, other=other):
                    if width(one) == len(other):
                        told = product(one, other)
                        self.assertEqual(told, plain_product(one, other))
                        self.assertEqual([len(row) for row in told], [width(other)] * len(one))
                    else:
                        with self.assertRaises(NoTable):
                            product(one, other)

    def test_sizes_that_do_not_fit(self):
        for one, other in [([], [[]]), ([], [[1]]), ([[1]], []), ([[]], [[1]]), ([[]], [[]]), ([[1, 2]], [[1, 2]])]:
            with self.subTest(one=one, other=other), self.assertRaises(NoTable):
                product(one, other)

    def test_forty_rows_and_columns(self):
        one = varied_table(40, 40, 1, 10 ** 29)
        other = varied_table(40, 40, 2, 10 ** 29)
        self.assertEqual(product(one, other), plain_product(one, other))

    def test_no_tables(self):
        for name, table in NO_TABLES.items():
            fit = [[1]] * width(table)
            others = list(TABLES.values()) + [fit, table]
            for other in others:
                with self.subTest(name, other=other):
                    with self.assertRaises(NoTable):
                        product(table, other)
                    with self.assertRaises(NoTable):
                        product(other, table)
                    with self.assertRaises(NoTable):
                        product([[1] * len(table)], table)


class TurnedOver(unittest.TestCase):
    def test_ordinary(self):
        self.assertEqual(turned_over([[1, 2, 3], [4, 5, 6]]), [[1, 4], [2, 5], [3, 6]])
        self.assertEqual(turned_over([[1, 2, 3]]), [[1], [2], [3]])
        self.assertEqual(turned_over([[1], [2], [3]]), [[1, 2, 3]])
        self.assertEqual(turned_over([[FAR]]), [[FAR]])

    def test_without_rows_or_columns(self):
        self.assertEqual(turned_over([]), [])
        self.assertEqual(turned_over([[]]), [])
        self.assertEqual(turned_over([[], [], []]), [])

    def test_twice(self):
        for table in some_tables() + [TABLES["40 rows and columns"], TABLES["40 rows"], TABLES["40 columns"]]:
            again = turned_over(turned_over(table))
            self.assertEqual(again, table if width(table) > 0 else [])

    def test_of_a_product(self):
        for one in some_tables():
            for other in some_tables():
                if width(one) == len(other) and min(len(one), len(other), width(other)) > 0:
                    told = product(turned_over(other), turned_over(one))
                    self.assertEqual(turned_over(product(one, other)), told)

    def test_no_tables(self):
        for name, table in NO_TABLES.items():
            with self.subTest(name), self.assertRaises(NoTable):
                turned_over(table)


class OwnTables(unittest.TestCase):
    def calls(self):
        for one, other in [
            ([[1, 2], [3, 4]], [[1, 0], [0, 1]]), ([[1], [1]], [[3, 4]]), ([[0, 0], [0, 0]], [[1, 2], [3, 4]]),
            ([[], []], []), ([], []), ([[1], [2]], [[]]), ([[1]], [[1]]),
        ]:
            yield product, (one, other)
        for table in [[[1, 2], [3, 4]], [[1, 1], [1, 1]], [[7]], [[], []], []]:
            yield turned_over, (table,)
            yield is_table, (table,)
        same = [[1, 2], [3, 4]]
        yield product, (same, same)
        row = [1, 1]
        yield product, ([row, row], [row, row])
        yield turned_over, ([row, row],)

    def test_what_is_handed_in_is_the_same_behind(self):
        for function, handed in self.calls():
            before = repr(handed)
            function(*handed)
            self.assertEqual(repr(handed), before)

    def test_refused_lists_are_the_same_behind(self):
        for name, table in NO_TABLES.items():
            handed = [list(row) for row in table]
            is_table(handed)
            with self.subTest(name):
                with self.assertRaises(NoTable):
                    turned_over(handed)
                with self.assertRaises(NoTable):
                    product(handed, handed)
                self.assertEqual(handed, table)

    def test_what_was_told_may_be_changed_row_by_row(self):
        for function, handed in self.calls():
            if function == is_table:
                continue
            with self.subTest(handed=handed):
                before = repr(handed)
                told = function(*handed)
                again = function(*handed)
                shape = repr(again)
                for row in told:
                    row.append("more")
                told.append([])
                self.assertEqual(repr(handed), before)
                self.assertEqual(repr(again), shape)
                self.assertEqual(repr(function(*handed)), shape)

    def test_changing_one_row_changes_no_other(self):
        for function, handed in self.calls():
            if function == is_table:
                continue
            told = function(*handed)
            for k, row in enumerate(told):
                before = [list(other) for other in told]
                row.append("more")
                before[k].append("more")
                self.assertEqual(told, before)

    def test_what_was_handed_in_may_be_changed_behind(self):
        for function, handed in self.calls():
            told = function(*handed)
            shape = repr(told)
            for table in handed:
                for row in table:
                    row.clear()
                table.clear()
            self.assertEqual(repr(told), shape)


if __name__ == "__main__":
    unittest.main()
