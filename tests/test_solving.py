import unittest
from itertools import product as all_of

from seamwright.errors import NoGoal, NoTable
from seamwright.solving import brought, leaves, shows_none, solved
from seamwright.steps import rank

from owned import Owned
from samples import NO_TABLES, plain_product, varied_numbers, varied_table, width

FAR = 10 ** 30 - 1

# Tables and goals, with numbers that are brought to them.
REACHED = [
    ("no rows", [], []),
    ("a row without numbers", [[]], [0]),
    ("rows without numbers", [[], [], []], [0, 0, 0]),
    ("noughts", [[0, 0], [0, 0]], [0, 0]),
    ("a nought goal", [[2, 4], [6, 9]], [0, 0]),
    ("one number", [[5]], [-35]),
    ("below nought", [[-5]], [35]),
    ("a far number", [[FAR]], [-FAR]),
    ("a far goal", [[1]], [FAR]),
    ("by a common divisor", [[6, 10, 15]], [1]),
    ("by a common divisor, far", [[6, 10, 15]], [FAR]),
    ("a column", [[2], [-4], [0]], [6, -12, 0]),
    ("more rows", [[1, 0], [0, 1], [1, 1]], [3, 4, 7]),
    ("more columns", [[2, 4, 6], [0, 3, 9]], [4, 3]),
    ("rows so many times another", [[2, 4], [3, 6]], [10, 15]),
    ("noughts at the end", [[1, 2], [0, 0]], [5, 0]),
]

# Tables and goals that nothing is brought to.
MISSED = [
    ("a row without numbers", [[]], [1]),
    ("rows without numbers", [[], [], []], [0, -4, 0]),
    ("rows without numbers, far", [[], []], [FAR, -FAR]),
    ("nought", [[0]], [1]),
    ("noughts", [[0, 0], [0, 0]], [0, 3]),
    ("even", [[2]], [3]),
    ("even numbers", [[2, 4], [6, 8]], [1, 0]),
    ("threes", [[6, 9, 15]], [FAR + 2]),
    ("a column too many", [[1], [1]], [1, 2]),
    ("rows so many times another", [[2, 4], [3, 6]], [10, 16]),
    ("a great step", [[1, 0], [0, 12]], [5, 18]),
    ("a far step", [[FAR]], [1]),
    ("the middle row", [[1, 0, 0], [0, 5, 0], [0, 0, 1]], [1, 1, 1]),
    ("noughts at the end", [[1, 2], [0, 0]], [5, 1]),
]


def plain_brought(table, numbers):
    return [sum(number * often for number, often in zip(row, numbers)) for row in table]


def plain_shows(table, goal, weights, number):
    columns = [[row[j] for row in table] for j in range(width(table))]
    sums = [sum(one * other for one, other in zip(weights, column)) for column in columns + [goal]]
    if number == 0:
        return not any(sums[:-1]) and sums[-1] != 0
    return all(total % number == 0 for total in sums[:-1]) and sums[-1] % number != 0


def more_tables():
    for rows, columns in [(1, 1), (1, 5), (5, 1), (2, 2), (3, 5), (5, 3), (6, 6), (11, 14), (14, 11), (20, 20)]:
        for turn, reach in enumerate([1, 6, 10 ** 11]):
            yield varied_table(rows, columns, 80 + turn, reach)
    yield plain_product(varied_table(12, 4, 5), varied_table(4, 10, 6))
    yield [[6 * number for number in row] for row in varied_table(7, 9, 7)]
    yield [[k * j % 5 for j in range(12)] for k in range(12)]


def all_tables():
    return [case[1] for case in REACHED + MISSED] + list(more_tables())


class Solved(unittest.TestCase):
    def look_at(self, table, goal, told):
        """Fails where what is told isn't right."""
        self.assertEqual(tuple, told.__class__)
        if told[0] == "yes":
            self.assertEqual((len(told), told[1].__class__, len(told[1])), (2, list, width(table)))
            self.assertEqual(plain_brought(table, told[1]), goal)
            self.assertEqual(brought(table, told[1]), goal)
        else:
            self.assertEqual((told[0], len(told)), ("no", 3))
            self.assertEqual((told[1].__class__, len(told[1])), (list, len(table)))
            self.assertTrue(told[2] == 0 or told[2] > 1)
            self.assertTrue(plain_shows(table, goal, told[1], told[2]))
            self.assertIs(shows_none(table, goal, told[1], told[2]), True)

    def test_reached(self):
        for name, table, goal in REACHED:
            with self.subTest(name):
                told = solved(table, goal)
                self.assertEqual(told[0], "yes")
                self.look_at(table, goal, told)

    def test_missed(self):
        found = []
        for name, table, goal in MISSED:
            with self.subTest(name):
                told = solved(table, goal)
                self.assertEqual(told[0], "no")
                self.look_at(table, goal, told)
                # Weights that weigh nought on all columns are there just if the rows aren't independent.
                if rank(table) == len(table):
                    self.assertGreater(told[2], 1)
                found.append(told[2] == 0)
        self.assertEqual({True, False}, set(found))

    def test_what_some_numbers_are_brought_to(self):
        for seed, table in enumerate(all_tables()):
            for reach in [1, 7, 10 ** 11]:
                goal = plain_brought(table, varied_numbers(width(table), -reach, reach, seed))
                told = solved(table, goal)
                self.assertEqual(told[0], "yes")
                self.look_at(table, goal, told)

    def test_goals_of_any_kind(self):
        found = {"yes": 0, "no": 0}
        for seed, table in enumerate(all_tables()):
            for reach in [1, 2, 40]:
                goal = varied_numbers(len(table), -reach, reach, seed)
                told = solved(table, goal)
                self.look_at(table, goal, told)
                found[told[0]] += 1
        self.assertGreater(min(found.values()), 20)

    def test_small_tables_as_told_otherwise(self):
        """By the numbers from -6 to 6, which are enough where the table's are 0 to 3 and the goal's near."""
        near = list(all_of(range(-6, 7), repeat=2))
        for numbers in all_of(range(4), repeat=4):
            table = [list(numbers[:2]), list(numbers[2:])]
            reached = {tuple(plain_brought(table, some)) for some in near}
            for goal in [[0, 1], [1, 1], [2, 3]]:
                told = solved(table, goal)
                self.look_at(table, goal, told)
                if tuple(goal) in reached:
                    self.assertEqual(told[0], "yes")

    def test_forty_rows_and_columns(self):
        for table in [varied_table(40, 40, 5, 10 ** 11), varied_table(40, 9, 6), varied_table(9, 40, 7)]:
            numbers = varied_numbers(width(table), -FAR, FAR, 1)
            goal = plain_brought(table, numbers)
            self.look_at(table, goal, solved(table, goal))
            goal[-1] += 1
            self.look_at(table, goal, solved(table, goal))

    def test_what_was_told_is_handed_in_again(self):
        table = [[FAR, FAR - 1], [FAR - 2, FAR - 4]]
        numbers = solved(table, [1, 0])
        goal = [3, 5]
        for turn in range(5):
            goal = brought(table, goal)
        self.look_at(table, goal, solved(table, goal))
        self.look_at(table, [1, 0], numbers)

    def test_no_table_goes_ahead(self):
        for name, table in NO_TABLES.items():
            for goal in [[], [0] * len(table), [1] * (len(table) + 1)]:
                with self.subTest(name, goal=goal), self.assertRaises(NoTable):
                    solved(table, goal)

    def test_no_goal(self):
        for table in all_tables():
            for count in [len(table) + 1, len(table) + 40, len(table) - 1, 0]:
                if count >= 0 and count != len(table):
                    with self.subTest(table=table, count=count), self.assertRaises(NoGoal):
                        solved(table, [0] * count)


class ShowsNone(unittest.TestCase):
    def test_by_nought(self):
        self.assertIs(shows_none([[1], [1]], [1, 2], [1, -1], 0), True)
        self.assertIs(shows_none([[1], [1]], [1, 2], [-7, 7], 0), True)
        self.assertIs(shows_none([[1], [1]], [1, 1], [1, -1], 0), False)
        self.assertIs(shows_none([[1], [1]], [1, 2], [1, 1], 0), False)
        self.assertIs(shows_none([[1, 0], [1, 1]], [1, 2], [1, -1], 0), False)
        self.assertIs(shows_none([[0, 1], [1, 1]], [1, 2], [1, -1], 0), False)

    def test_by_a_number(self):
        self.assertIs(shows_none([[2, 4]], [3], [1], 2), True)
        self.assertIs(shows_none([[2, 4]], [3], [-1], 2), True)
        self.assertIs(shows_none([[2, 4]], [4], [1], 2), False)
        self.assertIs(shows_none([[2, 5]], [3], [1], 2), False)
        self.assertIs(shows_none([[5, 2]], [3], [1], 2), False)
        self.assertIs(shows_none([[4, -8]], [6], [1], 4), True)
        self.assertIs(shows_none([[4, -8]], [6], [1], 3), False)
        self.assertIs(shows_none([[4, -8]], [6], [1], 2), False)
        self.assertIs(shows_none([[FAR]], [1], [1], FAR), True)
        self.assertIs(shows_none([[3, 0], [0, 6]], [1, 5], [1, 1], 3), False)
        self.assertIs(shows_none([[3, 0], [0, 6]], [1, 4], [1, 1], 3), True)

    def test_numbers_that_show_nothing(self):
        for name, table, goal in MISSED:
            told = solved(table, goal)
            for number in [1, -1, -2, -3, -FAR, -told[2]]:
                if number != 0:
                    with self.subTest(name, number=number):
                        self.assertIs(shows_none(table, goal, told[1], number), False)
        # The weights weigh 1 on the goal and nothing on the columns.
        self.assertIs(shows_none([[0]], [1], [1], 0), True)
        self.assertIs(shows_none([[0]], [1], [1], 2), True)
        for number in [1, -1, -2, -FAR]:
            self.assertIs(shows_none([[0]], [1], [1], number), False)

    def test_nought_is_no_divisor(self):
        self.assertIs(shows_none([[5]], [1], [1], 0), False)
        self.assertIs(shows_none([[5]], [1], [0], 0), False)

    def test_weights_of_another_length(self):
        for name, table, goal in MISSED:
            told = solved(table, goal)
            for weights in [told[1] + [0], told[1] + [1], told[1][:-1], [0] + told[1], [], told[1] * 41]:
                if len(weights) != len(table):
                    for number in [told[2], 0, 2]:
                        with self.subTest(name, weights=weights):
                            self.assertIs(shows_none(table, goal, weights, number), False)

    def test_nothing_shows_what_is_not_so(self):
        for seed, (name, table, goal) in enumerate(REACHED):
            for number in [0, 2, 3, 5, FAR]:
                for turn in range(4):
                    weights = varied_numbers(len(table), -3, 3, 10 * seed + turn)
                    self.assertIs(shows_none(table, goal, weights, number), False)

    def test_as_told_otherwise(self):
        found = [0, 0]
        for numbers in all_of([0, 2, 3, 4], repeat=4):
            table = [list(numbers[:2]), list(numbers[2:])]
            for weights in [[1, 0], [0, 1], [2, -3], [0, 0]]:
                for number in [0, 2, 3, 4]:
                    for goal in [[1, 0], [2, 3]]:
                        told = shows_none(table, goal, weights, number)
                        self.assertIs(told, plain_shows(table, goal, weights, number))
                        found[told] += 1
        self.assertGreater(min(found), 100)

    def test_refusals_in_order(self):
        for name, table in NO_TABLES.items():
            for goal in [[], [0] * len(table)]:
                for weights in [[], [1] * len(table)]:
                    with self.subTest(name), self.assertRaises(NoTable):
                        shows_none(table, goal, weights, 1)
        for table in [[], [[]], [[1]], [[2, 4], [0, 1]]]:
            for goal in [[0] * (len(table) + 1), [0] * (len(table) - 1)]:
                if len(goal) != len(table):
                    for weights, number in [([], 0), ([1] * len(table), 2), ([1] * 41, -1)]:
                        with self.subTest(table=table, goal=goal), self.assertRaises(NoGoal):
                            shows_none(table, goal, weights, number)


class Brought(unittest.TestCase):
    def test_row_by_row(self):
        self.assertEqual(brought([[1, 2], [3, 4], [5, 6]], [10, 1]), [12, 34, 56])
        self.assertEqual(brought([[1, -2, 3]], [1, 1, 1]), [2])
        self.assertEqual(brought([[2], [0], [-3]], [5]), [10, 0, -15])
        self.assertEqual(brought([[FAR]], [-FAR]), [-FAR * FAR])

    def test_without_rows_or_columns(self):
        self.assertEqual(brought([], []), [])
        self.assertEqual(brought([[]], []), [0])
        self.assertEqual(brought([[], [], []], []), [0, 0, 0])

    def test_as_told_otherwise(self):
        for seed, table in enumerate(all_tables()):
            numbers = varied_numbers(width(table), -FAR, FAR, seed)
            self.assertEqual(brought(table, numbers), plain_brought(table, numbers))

    def test_no_goal(self):
        for table in all_tables():
            for count in [width(table) + 1, width(table) + 40, width(table) - 1, 0]:
                if count >= 0 and count != width(table):
                    with self.subTest(table=table, count=count), self.assertRaises(NoGoal):
                        brought(table, [0] * count)

    def test_as_many_as_the_columns_not_the_rows(self):
        self.assertEqual(brought([[1, 2, 3]], [1, 0, 0]), [1])
        with self.assertRaises(NoGoal):
            brought([[1, 2, 3]], [1])

    def test_no_table_goes_ahead(self):
        for name, table in NO_TABLES.items():
            for numbers in [[], [1] * width(table), [1] * 50]:
                with self.subTest(name), self.assertRaises(NoTable):
                    brought(table, numbers)


class Leaves(unittest.TestCase):
    def test_as_many_as_the_columns_less_the_rank(self):
        for table in all_tables():
            told = leaves(table)
            self.assertEqual(len(told), width(table) - rank(table))
            self.assertEqual([len(leaf) for leaf in told], [width(table)] * len(told))

    def test_brought_to_noughts(self):
        for table in all_tables():
            for leaf in leaves(table):
                self.assertEqual(plain_brought(table, leaf), [0] * len(table))
                self.assertEqual(brought(table, leaf), [0] * len(table))

    def test_none(self):
        for table in [[], [[]], [[], []], [[1]], [[-7]], [[2], [3]], [[1, 2], [3, 4]], [[1, 0], [0, 1], [1, 1]]]:
            self.assertEqual(leaves(table), [])

    def test_known(self):
        for table, leaf in [
            ([[0]], [1]), ([[2, 4]], [2, -1]), ([[1, 1]], [1, -1]), ([[6, -4]], [2, 3]), ([[0, 5]], [1, 0]),
            ([[1, 2, 3], [4, 5, 6]], [1, -2, 1]),
        ]:
            self.assertIn(leaves(table), [[leaf], [[-number for number in leaf]]])

    def test_each_list_that_is_brought_to_noughts_in_just_one_way(self):
        """The leaves as columns bring some whole numbers to each such list, and have no leaf themselves."""
        for table in all_tables() + [[[0] * 6], [[2, 4, 6, 8]], [[0, 0, 3, 6], [0, 0, 1, 2]]]:
            told = leaves(table)
            if not told:
                continue
            columns = [[leaf[k] for leaf in told] for k in range(width(table))]
            self.assertEqual(leaves(columns), [])
            for some in self.brought_to_noughts(table):
                self.assertEqual(plain_brought(table, some), [0] * len(table))
                self.assertEqual(solved(columns, some)[0], "yes")

    def brought_to_noughts(self, table):
        """Lists that are brought to noughts: by what is left of the columns when a goal is reached twice."""
        count = width(table)
        for seed in range(4):
            start = varied_numbers(count, -9, 9, seed)
            other = solved(table, plain_brought(table, start))[1]
            yield [one - two for one, two in zip(start, other)]
        for one in range(count - 1):
            # Two columns, each as often as the other has it in one row; that is a leaf of tables of one row.
            if len(table) == 1:
                some = [0] * count
                some[one], some[one + 1] = table[0][one + 1], -table[0][one]
                yield some

    def test_no_whole_part_is_missed(self):
        """What is brought to noughts when it is doubled is so itself; so it is a sum of whole leaves, too."""
        for table in [[[2, 4, 6]], [[6, 10, 15]], [[2, 2, 2], [4, 4, 4]], [[3, 6, 9], [1, 5, 9]]]:
            columns = [[leaf[k] for leaf in leaves(table)] for k in range(width(table))]
            near = list(all_of(range(-4, 5), repeat=width(table)))
            for some in near:
                if not any(plain_brought(table, some)):
                    self.assertEqual(solved(columns, list(some))[0], "yes")

    def test_no_tables(self):
        for name, table in NO_TABLES.items():
            with self.subTest(name), self.assertRaises(NoTable):
                leaves(table)


class OwnLists(Owned, unittest.TestCase):
    def cases(self):
        for name, table, goal in REACHED:
            yield solved, (table, goal)
            yield shows_none, (table, goal, [1] * len(table), 2)
            yield brought, (table, [3] * width(table))
            yield leaves, (table,)
        for name, table, goal in MISSED:
            yield solved, (table, goal)
            yield shows_none, (table, goal, solved(table, goal)[1], solved(table, goal)[2])
        yield leaves, ([[0, 0, 0]],)
        yield brought, ([[1, 0], [0, 1]], [5, 6])
        yield solved, ([[1, 0], [0, 1]], [5, 6])
        yield solved, ([[0, 0], [0, 0]], [0, 1])

    def test_one_list_in_two_places(self):
        row = [1, 1]
        self.assertEqual(brought([row, row], row), [2, 2])
        self.assertEqual(solved([row, row], row)[0], "yes")
        self.assertIs(shows_none([row, row], row, row, 0), False)
        self.assertEqual(row, [1, 1])


if __name__ == "__main__":
    unittest.main()
