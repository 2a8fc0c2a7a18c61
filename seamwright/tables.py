"""Tables of whole numbers: rows that are all as long, their products, and tables turned over."""

from seamwright.errors import NoTable

MOST_ROWS = 40
MOST_COLUMNS = 40


def is_table(table):
    if len(table) > MOST_ROWS or width_of(table) > MOST_COLUMNS:
        return False
    return all([len(row) == width_of(table) for row in table])


# A table without rows has no columns.
def width_of(table):
    return len(table[0]) if len(table) > 0 else 0


def must_be_table(table):
    if not is_table(table):
        raise NoTable("this list is no table")


def product(one, other):
    must_be_table(one)
    must_be_table(other)
    if width_of(one) != len(other):
        raise NoTable("the second table has not as many rows as the first has columns")
    return rows_by(one, columns_of(other))


def rows_by(table, columns):
    return [row_by(row, columns) for row in table]


def row_by(row, columns):
    return [sum_by(row, column) for column in columns]


def sum_by(row, column):
    return sum([number * other for number, other in zip(row, column)])


def turned_over(table):
    must_be_table(table)
    return columns_of(table)


def columns_of(table):
    return columns_to(table, width_of(table))


# A list without rows doesn't tell how many columns are meant.
def columns_to(table, width):
    return [column_of(table, k) for k in range(width)]


def column_of(table, k):
    return [row[k] for row in table]
