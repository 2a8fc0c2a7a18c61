"""Growing webs: orders in which pieces come, and worths by which they do."""

from seamwright.errors import NoNumber, NoOrder
from seamwright.parts import greatest_of, is_piece, rims_of
from seamwright.webs import MOST_PIECES, pieces, points


def is_order(order):
    if len(order) > MOST_PIECES:
        return False
    seen = {}
    for piece in order:
        if not is_piece(piece) or piece in seen:
            return False
        if not all([rim in seen for rim in rims_of(piece)]):
            return False
        seen[piece] = True
    return True


def must_be_order(order):
    if not is_order(order):
        raise NoOrder("this list is no order")


def must_be_time(order, time):
    if not 0 <= time < len(order):
        raise NoNumber("the order has no such time")


# Sorting leaves pieces of one worth as they stand, and the pieces of a web stand by height, then as tuples.
def order_by(web, worths):
    every = pieces(web)
    if not are_worths(every, worths):
        raise NoOrder("this dict does not have the worths of the web")
    return sorted(every, key=lambda piece: worths[piece])


def are_worths(every, worths):
    if set(worths) != set(every):
        return False
    return all([is_above_rims(piece, worths) for piece in every])


def is_above_rims(piece, worths):
    return all([worths[rim] <= worths[piece] for rim in rims_of(piece)])


def worths_by_points(web, ages):
    every = pieces(web)
    if set(ages) != set(points(web)):
        raise NoOrder("this dict does not have a number under each point alone")
    worths = {}
    for piece in every:
        worths[piece] = max([ages[point] for point in piece])
    return worths


def web_at(order, time):
    must_be_order(order)
    must_be_time(order, time)
    return greatest_of(order[:time + 1])
