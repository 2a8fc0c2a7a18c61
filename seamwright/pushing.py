"""Pushes: free pairs taken out of a web one by one, which leaves its holes as they are."""

from seamwright.errors import NoPush
from seamwright.parts import greatest_of, rims_of
from seamwright.webs import pieces, pieces_about


def free_pairs(web):
    return free_among(pieces(web))


# The pieces handed in are all pieces of a web. There a piece that is a rim of just one other lies in no third one:
# between it and a piece with two points more there would be two.
def free_among(every):
    above = {}
    for piece in every:
        for rim in rims_of(piece):
            above.setdefault(rim, []).append(piece)
    return [(piece, above[piece][0]) for piece in every if len(above.get(piece, [])) == 1]


def pushed(web, piece):
    every = pieces_about(web, piece)
    for pair in free_among(every):
        if pair[0] == piece:
            return greatest_of(taken_out(every, pair))
    raise NoPush("this piece is the first one of no free pair")


def taken_out(every, pair):
    return [piece for piece in every if piece not in pair]


# What is left between two pushes may have more greatest pieces than a web that is handed in; so it goes by its
# pieces here.
def pushes(web):
    left = pieces(web)
    row = []
    free = free_among(left)
    while len(free) > 0:
        row.append(free[0])
        left = taken_out(left, free[0])
        free = free_among(left)
    return (row, greatest_of(left))


def is_pushed(web, pairs, other):
    left = pieces(web)
    goal = pieces(other)
    for pair in pairs:
        if pair not in free_among(left):
            return False
        left = taken_out(left, pair)
    return left == goal
