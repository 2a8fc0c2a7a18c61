"""Tables in steps: whole-turning tables on both sides, between which nothing but steps on the slope is left.

A table is brought to an echelon by its rows, then by its columns, and so on by turns. What turns it is written
behind its rows and goes along with them: so all rows are independent, and reducing them keeps both short.
"""

from seamwright.errors import NoNumber
from seamwright.tables import columns_of, columns_to, must_be_table, rows_by, width_of

LAST_PRIME = 100


def stepped(table):
    must_be_table(table)
    return paper_of(table, width_of(table))


def is_stepped(table, paper):
    must_be_table(table)
    if not is_back(paper[0], paper[1], len(table)):
        return False
    if not is_back(paper[2], paper[3], width_of(table)):
        return False
    if not are_steps(paper[4], min(len(table), width_of(table))):
        return False
    half = rows_by(paper[0], columns_of(table))
    return rows_by(half, columns_of(paper[2])) == on_slope(paper[4], len(table), width_of(table))


# Of tables with as many rows as columns one way about is enough: the other one follows.
def is_back(turn, back, size):
    if not is_of_size(turn, size) or not is_of_size(back, size):
        return False
    return rows_by(turn, columns_of(back)) == unit(size)


def is_of_size(table, size):
    return len(table) == size and all([len(row) == size for row in table])


def are_steps(steps, most):
    if len(steps) > most or not all([step > 0 for step in steps]):
        return False
    return all([high % low == 0 for low, high in zip(steps, steps[1:])])


def on_slope(numbers, size, width):
    return [slope_row(numbers, k, width) for k in range(size)]


def slope_row(numbers, k, width):
    row = [0] * width
    if k < len(numbers):
        row[k] = numbers[k]
    return row


def steps_of(table):
    return stepped(table)[4]


def rank(table):
    return len(steps_of(table))


def rank_by(table, prime):
    must_be_table(table)
    if not is_prime(prime):
        raise NoNumber("this number is no prime from 2 to 100")
    return len([step for step in steps_of(table) if step % prime != 0])


def is_prime(number):
    return 2 <= number <= LAST_PRIME and all([number % k != 0 for k in range(2, number)])


# The table of a web may have columns but no rows, and more than forty; so its width is told, and nothing
# is refused. A side is a tuple: the table, what turns its rows, and the columns of the back of that.
def paper_of(table, width):
    size = len(table)
    near = straightened((table, unit(size), unit(size)), width)
    far = straightened((columns_to(near[0], width), unit(width), unit(width)), size)
    while not is_in_steps(far[0]):
        near = (columns_to(far[0], size), near[1], near[2])
        near = slid(near, len(slope_of(far[0]))) if is_on_slope(far[0]) else straightened(near, width)
        far = straightened((columns_to(near[0], width), far[1], far[2]), size)
    return (near[1], columns_of(near[2]), columns_of(far[1]), far[2], slope_of(far[0]))


def is_in_steps(table):
    return is_on_slope(table) and are_steps(slope_of(table), len(table))


def unit(size):
    return on_slope([1] * size, size, size)


def is_on_slope(table):
    return all([row == slope_row(row, k, len(row)) for k, row in enumerate(table)])


def slope_of(table):
    return [row[k] for k, row in enumerate(table) if k < len(row) and row[k] != 0]


def straightened(side, width):
    rows = [row + turn for row, turn in zip(side[0], side[1])]
    found = echelon_of(rows)
    fresh = [found[place] for place in sorted(found)]
    shares = [shares_of(row, found) for row in rows]
    return (
        [row[:width] for row in fresh],
        [row[width:] for row in fresh],
        [mix_of(numbers, side[2]) for numbers in columns_of(shares)],
    )


# The rows are independent. Under each place is the row whose first number that is not nought stands there; it
# is above nought, and in all rows ahead the numbers at this place are from nought to one less than it.
def echelon_of(rows):
    found = {}
    for row in rows:
        take_in(found, row)
    return found


# All rows are reduced anew behind each one, since their numbers would grow beyond bounds otherwise; from the
# last one on, so that each is reduced by such as are reduced already.
def take_in(found, row):
    left = reduced(row, found, sorted(found))
    place = first_place(left)
    while place in found:
        top = found[place]
        pair = divisor_pair(top[place], left[place])
        found[place] = mix_of_two(pair[0][1], top, pair[0][2], left)
        left = reduced(mix_of_two(pair[1][1], top, pair[1][2], left), found, sorted(found))
        place = first_place(left)
    found[place] = left if left[place] > 0 else [-number for number in left]
    places = sorted(found)
    for k in range(len(places) - 1, -1, -1):
        found[places[k]] = reduced(found[places[k]], found, places[k + 1:])


# A row of the echelon changes numbers at its own place and behind, so the places are taken rising.
def reduced(row, found, places):
    left = row
    for place in places:
        often = left[place] // found[place][place]
        if often != 0:
            left = less(left, often, found[place])
    return left


def less(row, often, other):
    return [number - often * taken for number, taken in zip(row, other)]


def first_place(row):
    place = 0
    while row[place] == 0:
        place = place + 1
    return place


# Two tuples (number, one times, other times): the greatest divisor of both and nought, such that the four
# times are those of a whole-turning table.
def divisor_pair(one, other):
    told = (one, 1, 0)
    left = (other, 0, 1)
    while left[0] != 0:
        often = told[0] // left[0]
        rest = tuple([high - often * low for high, low in zip(told, left)])
        told = left
        left = rest
    return (told, left)


def mix_of_two(often, row, other_often, other):
    return [often * number + other_often * beside for number, beside in zip(row, other)]


def mix_of(numbers, rows):
    told = [0] * width_of(rows)
    for often, row in zip(numbers, rows):
        if often != 0:
            told = less(told, -often, row)
    return told


def shares_of(row, found):
    told = []
    left = row
    for place in sorted(found):
        often = left[place] // found[place][place]
        told.append(often)
        if often != 0:
            left = less(left, often, found[place])
    return told


# Numbers on the slope that don't divide one another stay where they are unless their rows are mixed: each of
# them is added to all rows ahead. Straightening the columns then leaves lesser numbers ahead.
def slid(side, count):
    rows = list(side[0])
    turn = list(side[1])
    back = list(side[2])
    for k in range(count - 1, 0, -1):
        rows[k - 1] = less(rows[k - 1], -1, rows[k])
        turn[k - 1] = less(turn[k - 1], -1, turn[k])
        back[k] = less(back[k], 1, back[k - 1])
    return (rows, turn, back)
