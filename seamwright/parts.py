"""Pieces by themselves: which tuples are pieces, their parts and rims, and the order in which they go.

Nothing here refuses anything; what is handed in as a web has been looked at by seamwright.webs.
"""

LAST_POINT = 99
MOST_POINTS = 5


def is_piece(numbers):
    if not 1 <= len(numbers) <= MOST_POINTS:
        return False
    # In a rising tuple the ends bound all that lies between.
    if numbers[0] < 0 or numbers[-1] > LAST_POINT:
        return False
    return all([low < high for low, high in zip(numbers, numbers[1:])])


def parts_of(piece):
    found = [()]
    for point in piece:
        found = found + [part + (point,) for part in found]
    # The first one has no points, and so is no piece.
    return found[1:]


def rims_of(piece):
    # What is left of a point has no points, and so is no piece.
    if len(piece) == 1:
        return []
    return [piece[:k] + piece[k + 1:] for k in range(len(piece))]


def holds(piece, part):
    return all([point in piece for point in part])


def order_key(piece):
    return (len(piece), piece)


def in_order(some):
    return sorted(some, key=order_key)


def all_parts(some):
    found = {}
    for piece in some:
        for part in parts_of(piece):
            found[part] = True
    return in_order(list(found))


# The pieces handed in are all pieces of a web. There a piece that is part of another one is
# a rim of one, too, so a look at the rims is enough.
def greatest_of(every):
    covered = {}
    for piece in every:
        for rim in rims_of(piece):
            covered[rim] = True
    return in_order([piece for piece in every if piece not in covered])
