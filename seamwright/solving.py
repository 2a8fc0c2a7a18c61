"""Which lists a table brings to a goal, and which it brings to noughts."""

from seamwright.errors import NoGoal
from seamwright.steps import paper_of, stepped
from seamwright.tables import columns_of, must_be_table, row_by, sum_by, width_of


def solved(table, goal):
    must_have_goal(table, goal)
    return solved_by(paper_of(table, width_of(table)), goal)


def must_have_goal(table, goal):
    must_be_table(table)
    if len(goal) != len(table):
        raise NoGoal("this list has not as many numbers as the table has rows")


# Turned by the left side, the goal must have so many times each step, and noughts behind them; a row of the
# left side that doesn't come out so shows that there are none.
def solved_by(paper, goal):
    left = paper[0]
    steps = paper[4]
    sums = row_by(goal, left)
    for k, total in enumerate(sums):
        number = steps[k] if k < len(steps) else 0
        if not is_so_many_times(total, number):
            return ("no", list(left[k]), number)
    often = [total // step for total, step in zip(sums, steps)]
    return ("yes", row_by(often, paper[2]))


def is_so_many_times(total, number):
    return total == 0 if number == 0 else total % number == 0


def shows_none(table, goal, weights, number):
    must_have_goal(table, goal)
    if len(weights) != len(table) or not can_show(number):
        return False
    if is_so_many_times(sum_by(weights, goal), number):
        return False
    return all([is_so_many_times(sum_by(weights, column), number) for column in columns_of(table)])


def can_show(number):
    return number == 0 or number > 1


def brought(table, numbers):
    must_be_table(table)
    if len(numbers) != width_of(table):
        raise NoGoal("this list has not as many numbers as the table has columns")
    return row_by(numbers, table)


def leaves(table):
    return leaves_of(stepped(table))


def leaves_of(paper):
    return columns_of(paper[2])[len(paper[4]):]
