"""Webs put together of webs: both of two, what they share, joins and cones."""

from seamwright.errors import NoNumber, NoWeb
from seamwright.parts import all_parts, greatest_of, is_piece
from seamwright.webs import MOST_PIECES, must_be_web, pieces, points


def both(one, other):
    must_be_web(one)
    must_be_web(other)
    return greatest_of(all_parts(one + other))


def shared(one, other):
    here = pieces(one)
    there = pieces(other)
    return greatest_of([piece for piece in here if piece in there])


# Points are pieces, so two webs without a shared piece share no point either.
def joined(one, other):
    here = pieces(one)
    there = pieces(other)
    if any([piece in there for piece in here]):
        raise NoWeb("these two webs share a point")
    every = here + there
    for piece in here:
        every.extend([tuple(sorted(piece + far)) for far in there])
    if len(every) > MOST_PIECES or not all([is_piece(piece) for piece in every]):
        raise NoWeb("these two webs join to too many pieces, or to pieces of too many points")
    return greatest_of(every)


def cone(web, point):
    old = points(web)
    if point in old or not is_piece((point,)):
        raise NoNumber("this number is no point, or no new one")
    return joined(web, [(point,)])
