"""Maps: webs led to webs point by point, and what that does with chains and holes."""

from seamwright.chains import must_be_chain, sum_of
from seamwright.errors import NoMap
from seamwright.holes import often_by, pieces_of, rounds, sums_by, view_of
from seamwright.parts import all_parts, greatest_of
from seamwright.webs import must_be_web, pieces


def is_map(web, other, names):
    here = pieces(web)
    there = pieces(other)
    if sorted(names) != [piece[0] for piece in here if len(piece) == 1]:
        return False
    return all([image_of(names, piece) in there for piece in here])


def must_be_map(web, other, names):
    if not is_map(web, other, names):
        raise NoMap("this dict is no map from the web to the other one")


def image_of(names, piece):
    return tuple(sorted(set(names_along(names, piece))))


def names_along(names, piece):
    return [names[point] for point in piece]


def image(web, other, names):
    must_be_map(web, other, names)
    return greatest_of(all_parts([image_of(names, piece) for piece in web]))


def carried(web, other, names, chain):
    must_be_map(web, other, names)
    must_be_chain(web, chain)
    return carried_by(names, chain)


def carried_by(names, chain):
    terms = []
    for piece in chain:
        terms.extend(risen_terms(names_along(names, piece), chain[piece]))
    return sum_of(terms)


# Points in any order, with a weight, as a term under the piece that has them; none where a point stands twice.
def risen_terms(some, weight):
    if len(set(some)) < len(some):
        return []
    return [(tuple(sorted(some)), weight if falls_in(some) % 2 == 0 else -weight)]


def falls_in(some):
    return sum([less_than(point, some[k + 1:]) for k, point in enumerate(some)])


def less_than(point, some):
    return len([other for other in some if other < point])


def behind(web, middle, last, one, other):
    for some in [web, middle, last]:
        must_be_web(some)
    must_be_map(web, middle, one)
    must_be_map(middle, last, other)
    told = {}
    for point in one:
        told[point] = other[one[point]]
    return told


# The other web is looked at once for all rounds.
def on_holes(web, other, names, height):
    must_be_map(web, other, names)
    told = rounds(web, height)
    every = told[0] + [twisted[0] for twisted in told[1]]
    there = pieces_of(other, height)
    view = view_of(other, height)
    return [often_by(view, sums_by(view, there, carried_by(names, chain))) for chain in every]
