"""Prisms: what lies between two maps that lie side by side."""

from seamwright.chains import must_be_chain, sum_of
from seamwright.errors import NoMap
from seamwright.maps import must_be_map, names_along, risen_terms
from seamwright.webs import pieces


def beside(web, other, one, two):
    must_be_map(web, other, one)
    must_be_map(web, other, two)
    there = pieces(other)
    return all([both_images(one, two, piece) in there for piece in pieces(web)])


def both_images(one, two, piece):
    return tuple(sorted(set(names_along(one, piece) + names_along(two, piece))))


def prism(web, other, one, two, chain):
    if not beside(web, other, one, two):
        raise NoMap("these two maps do not lie side by side")
    must_be_chain(web, chain)
    terms = []
    for piece in chain:
        terms.extend(prism_terms(names_along(one, piece), names_along(two, piece), chain[piece]))
    return sum_of(terms)


# The point at each place stands twice, once by each map: so there is one point more.
def prism_terms(first, second, weight):
    terms = []
    for k in range(len(first)):
        terms.extend(risen_terms(first[:k + 1] + second[k:], weight if k % 2 == 0 else -weight))
    return terms
