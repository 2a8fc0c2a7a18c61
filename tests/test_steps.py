import unittest
from itertools import combinations
from math import gcd

from seamwright.errors import NoNumber, NoTable
from seamwright.steps import is_stepped, rank, rank_by, stepped, steps_of

from owned import Owned
from samples import NO_TABLES, plain_product, plain_slope, rank_by_prime, varied_table, width

FAR = 10 ** 30 - 1
PRIMES = [k for k in range(2, 101) if all(k % j for j in range(2, k))]


def slope(*numbers):
    return plain_slope(numbers, len(numbers), len(numbers))


def mixed(numbers, rows, columns, seed):
    """A table with these steps: what has them on the slope, with its rows and columns mixed."""
    table = plain_slope(numbers, rows, columns)
    for k, often in enumerate(varied_table(1, 3 * (rows - 1), seed, 2)[0]):
        one, other = k % rows, (k + 1 + k // rows) % rows
        if one != other:
            table[one] = [number + often * beside for number, beside in zip(table[one], table[other])]
    for k, often in enumerate(varied_table(1, 3 * (columns - 1), seed + 1, 2)[0]):
        one, other = k % columns, (k + 1 + k // columns) % columns
        if one != other:
            for row in table:
                row[one] += often * row[other]
    return table


# Tables with their steps.
KNOWN = [
    ("no rows", [], []),
    ("a row without numbers", [[]], []),
    ("rows without numbers", [[], [], []], []),
    ("nought", [[0]], []),
    ("noughts in a row", [[0, 0, 0]], []),
    ("noughts in a column", [[0], [0]], []),
    ("noughts", [[0, 0, 0], [0, 0, 0]], []),
    ("one", [[1]], [1]),
    ("below nought", [[-7]], [7]),
    ("a far number", [[-FAR]], [FAR]),
    ("a row", [[6, 10, 15]], [1]),
    ("a row of evens", [[-4, 6, 0, 8]], [2]),
    ("a row with noughts ahead", [[0, 0, 5]], [5]),
    ("a column", [[6], [10], [15]], [1]),
    ("a column of threes", [[0], [-9], [6]], [3]),
    ("so many times another row", [[2, 4, 6], [3, 6, 9]], [1]),
    ("times another row, even", [[2, 4, 6], [-4, -8, -12], [2, 4, 6]], [2]),
    ("so many times another column", [[1, 5, 2], [2, 10, 4], [3, 15, 7]], [1, 1]),
    ("2 and 3", slope(2, 3), [1, 6]),
    ("4 and 6", slope(4, 6), [2, 12]),
    ("falling", slope(8, 4, 2), [2, 4, 8]),
    ("rising", slope(2, 4, 8), [2, 4, 8]),
    ("primes", slope(2, 3, 5, 7, 11), [1, 1, 1, 1, 2310]),
    ("of many divisors", slope(6, 10, 15), [1, 30, 30]),
    ("noughts between", slope(0, 5, 0, -3), [1, 15]),
    ("more rows", [[2, 4], [6, 8], [10, 12]], [2, 4]),
    ("more columns", [[2, 6, 10], [4, 8, 12]], [2, 4]),
    ("as many", [[2, 4, 4], [-6, 6, 12], [10, -4, -16]], [2, 6, 12]),
    ("in rising order", [[1, 2, 3], [4, 5, 6], [7, 8, 9]], [1, 3]),
    ("far numbers", [[FAR, 0], [0, FAR - 1]], [1, FAR * (FAR - 1)]),
    ("four and more columns", mixed([1, 2, 6, 12], 4, 7, 1), [1, 2, 6, 12]),
    ("five and more rows", mixed([2, 2, 4, 4, 40], 9, 6, 2), [2, 2, 4, 4, 40]),
    ("ten", mixed([1, 1, 1, 1, 1, 3, 3, 9, 18, 90], 10, 10, 3), [1, 1, 1, 1, 1, 3, 3, 9, 18, 90]),
    ("97", mixed([1, 5, 15, 97 * 15], 6, 6, 4), [1, 5, 15, 97 * 15]),
]


def more_tables():
    for rows, columns in [(1, 1), (1, 6), (6, 1), (2, 3), (3, 2), (4, 4), (5, 7), (7, 5), (10, 10), (12, 20), (20, 12)]:
        for turn, reach in enumerate([1, 9, 1000]):
            yield varied_table(rows, columns, 50 + turn, reach)
    # The last rows are so many times the ones ahead, or sums of them.
    for size in [4, 11, 16]:
        table = varied_table(size, size, size, 5)
        table[-1] = [3 * number for number in table[0]]
        table[-2] = [one - other for one, other in zip(table[0], table[1])]
        yield table
    yield plain_product(varied_table(15, 6, 7), varied_table(6, 18, 8))
    yield [[12 * number for number in row] for row in varied_table(10, 12, 9)]
    yield slope(*range(1, 21))
    yield slope(*range(20, 0, -1))
    yield [[gcd(k + 1, j + 1) for j in range(20)] for k in range(20)]
    yield [[(k + 1) ** j for j in range(14)] for k in range(14)]


def far_tables():
    for rows, columns in [(3, 3), (12, 9), (20, 20)]:
        low = varied_table(rows, columns, 3, 10 ** 11)
        high = varied_table(rows, columns, 4, 10 ** 11)
        numbers = zip(low, high)
        yield [[10 ** 18 * one + other for one, other in zip(*rows_of)] for rows_of in numbers]


def all_tables():
    return [table for name, table, steps in KNOWN] + list(more_tables()) + list(far_tables())


def divisors_of_minors(table):
    """The steps, by the greatest common divisors of all determinants of parts of the table."""
    told = [1]
    for size in range(1, min(len(table), width(table)) + 1):
        minors = [
            determinant([[table[k][j] for j in columns] for k in rows])
            for rows in combinations(range(len(table)), size)
            for columns in combinations(range(width(table)), size)
        ]
        told.append(gcd(*minors))
    return [high // low for low, high in zip(told, told[1:]) if high != 0]


def determinant(table):
    if not table:
        return 1
    told = 0
    for j, number in enumerate(table[0]):
        if number:
            told += (-1) ** j * number * determinant([row[:j] + row[j + 1:] for row in table[1:]])
    return told


def is_right(table, paper):
    """Whether a paper is right, multiplied out by plain products."""
    left, left_back, right, right_back, steps = paper
    rows, columns = len(table), width(table)
    for turn, back, size in [(left, left_back, rows), (right, right_back, columns)]:
        for some in [turn, back]:
            if [len(row) for row in some] != [size] * size:
                return False
        for one, other in [(turn, back), (back, turn)]:
            if plain_product(one, other) != plain_slope([1] * size, size, size):
                return False
    if any(step <= 0 for step in steps) or any(high % low for low, high in zip(steps, steps[1:])):
        return False
    if len(steps) > min(rows, columns):
        return False
    return plain_product(plain_product(left, table), right) == plain_slope(steps, rows, columns)


class Stepped(unittest.TestCase):
    def test_papers_are_right(self):
        for table in all_tables():
            with self.subTest(table=table):
                self.assertTrue(is_right(table, stepped(table)))

    def test_kinds(self):
        for table in all_tables():
            paper = stepped(table)
            self.assertEqual((paper.__class__, len(paper)), (tuple, 5))
            for some in paper[:4]:
                self.assertEqual({list}, {some.__class__} | {row.__class__ for row in some})
            self.assertEqual(list, paper[4].__class__)

    def test_sizes_without_rows_or_columns(self):
        self.assertEqual(stepped([]), ([], [], [], [], []))
        for count in [1, 3, 40]:
            left, left_back, right, right_back, steps = stepped([[] for k in range(count)])
            self.assertEqual((len(left), len(left_back), right, right_back, steps), (count, count, [], [], []))

    def test_known_steps(self):
        for name, table, steps in KNOWN:
            with self.subTest(name):
                self.assertEqual(stepped(table)[4], steps)
                self.assertEqual(steps_of(table), steps)
                self.assertEqual(rank(table), len(steps))

    def test_steps_of_mixed_tables(self):
        for seed in range(12):
            numbers = [1, 1, 2, 2, 6, 12, 60, 60 * FAR][seed % 4:]
            rows, columns = len(numbers) + seed % 3, len(numbers) + seed % 2
            table = mixed(numbers, rows, columns, 20 + seed)
            self.assertEqual(steps_of(table), numbers)

    def test_steps_by_determinants(self):
        for rows in range(1, 5):
            for columns in range(1, 6):
                for seed in range(4):
                    table = varied_table(rows, columns, 7 * seed, [1, 2, 6, 30][seed])
                    steps = divisors_of_minors(table)
                    self.assertEqual(steps_of(table), steps)
                    self.assertEqual(rank(table), len(steps))

    def test_steps_turned_over(self):
        for table in all_tables():
            if width(table) > 0:
                over = [[row[j] for row in table] for j in range(width(table))]
                self.assertEqual(steps_of(over), steps_of(table))

    def test_steps_and_rank_beside_the_paper(self):
        for table in all_tables():
            paper = stepped(table)
            self.assertEqual(steps_of(table), paper[4])
            self.assertEqual(rank(table), len(paper[4]))
            self.assertEqual(int, rank(table).__class__)

    def test_forty_rows_and_columns(self):
        for table in [varied_table(40, 40, 1, 9), varied_table(40, 40, 2, 10 ** 11), varied_table(40, 13, 3)]:
            paper = stepped(table)
            self.assertTrue(is_stepped(table, paper))
            self.assertEqual(len(paper[4]), min(40, width(table)))
        for table in [slope(*[k * k for k in range(40, 0, -1)]), slope(*[6] * 20 + [10] * 20)]:
            self.assertTrue(is_stepped(table, stepped(table)))
        self.assertEqual(steps_of(slope(*[6] * 20 + [10] * 20)), [2] * 20 + [30] * 20)

    def test_numbers_do_not_grow_beyond_bounds(self):
        """A paper of tables of so many figures stays within some times what the steps need."""
        for table in far_tables():
            for some in stepped(table)[:4]:
                self.assertLess(max(abs(number) for row in some for number in row), 10 ** (30 * 4 * len(table)))

    def test_no_tables(self):
        for name, table in NO_TABLES.items():
            for function in [stepped, steps_of, rank]:
                with self.subTest(name, function=function), self.assertRaises(NoTable):
                    function(table)


class IsStepped(unittest.TestCase):
    def test_told_papers(self):
        for table in all_tables():
            self.assertIs(is_stepped(table, stepped(table)), True)

    def test_other_right_papers(self):
        table = [[2, 0], [0, 4]]
        self.assertIs(is_stepped(table, (slope(1, 1), slope(1, 1), slope(1, 1), slope(1, 1), [2, 4])), True)
        self.assertIs(is_stepped(table, (slope(-1, 1), slope(-1, 1), slope(-1, 1), slope(-1, 1), [2, 4])), True)
        other = ([[1, 0], [2, 1]], [[1, 0], [-2, 1]], [[1, 0], [-1, 1]], [[1, 0], [1, 1]], [2, 4])
        self.assertIs(is_stepped(table, other), True)
        self.assertIs(is_stepped([[0]], ([[-1]], [[-1]], [[1]], [[1]], [])), True)
        self.assertIs(is_stepped([[-5]], ([[-1]], [[-1]], [[1]], [[1]], [5])), True)
        self.assertIs(is_stepped([[-5]], ([[1]], [[1]], [[-1]], [[-1]], [5])), True)

    def test_papers_of_another_table(self):
        table = [[2, 0], [0, 4]]
        for other in [[[2, 0], [0, 6]], [[2, 0], [1, 4]], [[0, 0], [0, 0]], [[2, 0]], [[2], [0]], [], [[], []]]:
            self.assertIs(is_stepped(other, stepped(table)), False)

    def test_a_number_changed(self):
        for name, table, steps in KNOWN:
            for place in range(4):
                paper = stepped(table)
                for k, row in enumerate(paper[place]):
                    for j in range(len(row)):
                        row[j] += 1 + (k + j) % 3
                        self.assertIs(is_stepped(table, paper), False)
                        row[j] -= 1 + (k + j) % 3
                self.assertIs(is_stepped(table, paper), True)

    def test_a_table_of_another_size(self):
        for name, table, steps in KNOWN:
            for place in range(4):
                for change in [
                    lambda some: some + [[0] * len(some)],
                    lambda some: some + [[0] * (len(some) + 1)],
                    lambda some: [row + [0] for row in some],
                    lambda some: [row + [0] for row in some] + [[0] * len(some) + [1]],
                    lambda some: some[:-1],
                    lambda some: [row[:-1] for row in some],
                    lambda some: [row[:-1] for row in some[:-1]],
                    lambda some: plain_slope([1] * 41, 41, 41),
                    lambda some: plain_slope([1] * 40, 41, 40),
                    lambda some: plain_slope([1] * 40, 40, 41),
                    lambda some: [[]] if some == [] else [],
                ]:
                    paper = list(stepped(table))
                    other = change(paper[place])
                    if other != paper[place]:
                        paper[place] = other
                        with self.subTest(name, place=place, other=len(other)):
                            self.assertIs(is_stepped(table, tuple(paper)), False)

    def test_both_tables_of_another_size(self):
        for table in [[[2]], [[2, 4]], [[0, 0], [0, 3]]]:
            for size in [0, 1, 2, 3, 41]:
                unit = plain_slope([1] * size, size, size)
                paper = stepped(table)
                if size != len(table):
                    self.assertIs(is_stepped(table, (unit, unit, *paper[2:])), False)
                if size != width(table):
                    self.assertIs(is_stepped(table, (*paper[:2], unit, unit, paper[4])), False)

    def test_rows_of_unlike_length(self):
        for name, table, steps in KNOWN:
            for place in range(4):
                paper = stepped(table)
                for row in paper[place]:
                    row.append(0)
                    self.assertIs(is_stepped(table, paper), False)
                    row.pop()
                    last = row.pop()
                    self.assertIs(is_stepped(table, paper), False)
                    row.append(last)
                self.assertIs(is_stepped(table, paper), True)

    def test_steps_too_few_or_too_many(self):
        for name, table, steps in KNOWN:
            paper = stepped(table)
            wrong = [steps + [0], steps + [1], steps + steps[-1:] + [7 * FAR], steps + [0] * 41]
            wrong += [steps[:k] for k in range(len(steps))] + [steps[1:]] * (len(steps) > 0)
            for other in wrong:
                with self.subTest(name, other=other):
                    self.assertIs(is_stepped(table, (*paper[:4], other)), False)

    def test_steps_changed(self):
        for name, table, steps in KNOWN:
            paper = stepped(table)
            for k in range(len(steps)):
                for number in [0, -steps[k], 2 * steps[k], steps[k] + 1]:
                    other = steps[:k] + [number] + steps[k + 1:]
                    with self.subTest(name, other=other):
                        self.assertIs(is_stepped(table, (*paper[:4], other)), False)

    def test_products_that_hold_with_steps_that_do_not(self):
        one, two = slope(1), slope(1, 1)
        for table, steps in [
            ([[0]], [0]), ([[-2]], [-2]), ([[2, 0], [0, 0]], [2, 0]), ([[0, 0], [0, 0]], [0, 0]),
            ([[4, 0], [0, 2]], [4, 2]), ([[2, 0], [0, 3]], [2, 3]), ([[0, 0], [0, 3]], [0, 3]),
            ([[1, 0], [0, -2]], [1, -2]), ([[-1, 0], [0, 2]], [-1, 2]),
        ]:
            unit = one if len(table) == 1 else two
            with self.subTest(steps=steps):
                self.assertIs(is_stepped(table, (unit, unit, unit, unit, steps)), False)

    def test_more_steps_than_the_slope_has(self):
        one, two = slope(1), slope(1, 1)
        self.assertIs(is_stepped([[2]], (one, one, one, one, [2, 2])), False)
        self.assertIs(is_stepped([[2, 0]], (one, one, two, two, [2, 2])), False)
        self.assertIs(is_stepped([[2], [0]], (two, two, one, one, [2, 2])), False)
        self.assertIs(is_stepped([], ([], [], [], [], [1])), False)
        self.assertIs(is_stepped([[]], (one, one, [], [], [1])), False)
        self.assertIs(is_stepped([[]], (one, one, [], [], [])), True)

    def test_tables_that_are_not_backs(self):
        one = slope(1)
        self.assertIs(is_stepped([[1]], ([[2]], one, one, one, [2])), False)
        self.assertIs(is_stepped([[1]], (one, one, [[2]], one, [2])), False)
        self.assertIs(is_stepped([[4]], ([[2]], [[2]], one, one, [8])), False)
        self.assertIs(is_stepped([[1]], ([[-1]], one, [[-1]], one, [1])), False)
        self.assertIs(is_stepped([[1]], (one, [[0]], one, one, [1])), False)
        self.assertIs(is_stepped([[0]], ([[0]], [[0]], one, one, [])), False)

    def test_numbers_beside_the_slope(self):
        two = slope(1, 1)
        self.assertIs(is_stepped([[1, 5], [0, 2]], (two, two, two, two, [1, 2])), False)
        self.assertIs(is_stepped([[1, 0], [5, 2]], (two, two, two, two, [1, 2])), False)

    def test_no_table_goes_ahead(self):
        for name, table in NO_TABLES.items():
            for paper in [([], [], [], [], []), ([[1]], [[1]], [[1]], [[1]], [0]), stepped([[2, 4]])]:
                with self.subTest(name), self.assertRaises(NoTable):
                    is_stepped(table, paper)


class RankBy(unittest.TestCase):
    def test_steps_that_are_divided_and_that_are_not(self):
        table = mixed([1, 2, 6, 30, 30 * 97], 6, 7, 11)
        self.assertEqual(rank(table), 5)
        for prime, told in [(2, 1), (3, 2), (5, 3), (97, 4), (7, 5), (89, 5)]:
            self.assertEqual(rank_by(table, prime), told)
        self.assertEqual([rank_by(slope(4, 9, 25, 97), prime) for prime in [2, 3, 5, 97, 11]], [3, 3, 3, 3, 4])

    def test_all_primes(self):
        self.assertEqual(len(PRIMES), 25)
        for prime in PRIMES:
            self.assertEqual(rank_by([[prime, 0], [0, 1]], prime), 1)
            self.assertEqual(rank_by([[prime, 0], [0, prime - 1]], prime), 1)
            self.assertEqual(rank_by([[prime * prime]], prime), 0)

    def test_as_told_otherwise(self):
        for table in all_tables():
            for prime in [2, 3, 5, 97]:
                self.assertEqual(rank_by(table, prime), rank_by_prime(table, prime))

    def test_without_rows_or_columns(self):
        for table in [[], [[]], [[], []], [[0]]]:
            for prime in PRIMES:
                self.assertEqual(rank_by(table, prime), 0)

    def test_no_prime(self):
        others = [number for number in range(-5, 130) if number not in PRIMES]
        for number in others + [-97, -2, 10007, FAR, -FAR]:
            for table in [[], [[1]], [[2, 4], [6, 8]]]:
                with self.subTest(number=number), self.assertRaises(NoNumber):
                    rank_by(table, number)

    def test_no_table_goes_ahead(self):
        for name, table in NO_TABLES.items():
            for number in [2, 97, -1, 0, 1, 4, 91, 100, 101]:
                with self.subTest(name, number=number), self.assertRaises(NoTable):
                    rank_by(table, number)


class OwnPapers(Owned, unittest.TestCase):
    def cases(self):
        row = [2, 4]
        for table in [table for name, table, steps in KNOWN if len(table) < 5] + [[row, row], slope(1, 1)]:
            yield stepped, (table,)
            yield steps_of, (table,)
            yield rank, (table,)
            yield rank_by, (table, 3)
            yield is_stepped, (table, stepped(table))
            yield is_stepped, (table, ([[1], []], [[]], [[0]], [], [3, -1]))


if __name__ == "__main__":
    unittest.main()
