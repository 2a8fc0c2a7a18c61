"""Webs: what is one, and what is told of it."""

from seamwright.errors import NoPiece, NoWeb
from seamwright.parts import all_parts, greatest_of, holds, in_order, is_piece

MOST_HANDED = 20
MOST_PIECES = 200


def is_web(web):
    if len(web) > MOST_HANDED:
        return False
    if not all([is_piece(numbers) for numbers in web]):
        return False
    if len(set(web)) < len(web):
        return False
    return len(all_parts(web)) <= MOST_PIECES


def must_be_web(web):
    if not is_web(web):
        raise NoWeb("this list is no web")


# The other functions come here for the pieces, so that each of them refuses what is no web.
def pieces(web):
    must_be_web(web)
    return all_parts(web)


def greatest(web):
    return greatest_of(pieces(web))


def points(web):
    return [piece[0] for piece in pieces(web) if len(piece) == 1]


def height(web):
    return max([len(piece) for piece in pieces(web)], default=0) - 1


def counts(web):
    lengths = [len(piece) for piece in pieces(web)]
    return [lengths.count(k + 1) for k in range(max(lengths, default=0))]


def balance(web):
    told = counts(web)
    return sum(told[::2]) - sum(told[1::2])


def pieces_about(web, piece):
    every = pieces(web)
    if piece not in every:
        raise NoPiece("this tuple is no piece of the web")
    return every


# What lies together with the piece in one of the web's pieces lies in a greatest one that
# holds the piece; so these are the greatest of the star.
def star(web, piece):
    every = pieces_about(web, piece)
    return [top for top in greatest_of(every) if holds(top, piece)]


# All tops of the star hold the piece, so none of their rests is part of another one.
# The piece itself, where it is a top, leaves no points over.
def link(web, piece):
    rests = [rest_of(top, piece) for top in star(web, piece)]
    return in_order([rest for rest in rests if len(rest) > 0])


def rest_of(top, piece):
    return tuple([point for point in top if point not in piece])


def without(web, piece):
    every = pieces_about(web, piece)
    return greatest_of([other for other in every if not holds(other, piece)])


def shares(web):
    every = pieces(web)
    # A share goes by the name of one of its points; by which one makes no difference.
    names = {}
    for piece in every:
        if len(piece) == 1:
            names[piece[0]] = piece[0]
    for piece in every:
        if len(piece) == 2:
            names = renamed(names, names[piece[0]], names[piece[1]])
    # The points were put in rising, so each list rises, and the lists come in order.
    found = {}
    for point in names:
        found.setdefault(names[point], []).append(point)
    return list(found.values())


def renamed(names, new, old):
    told = {}
    for point in names:
        told[point] = new if names[point] == old else names[point]
    return told


def is_same(one, other):
    return pieces(one) == pieces(other)
