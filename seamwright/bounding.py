"""Whether a closed chain bounds: a filling of it, or weights that show that there is none."""

from seamwright.chains import (
    chain_on, is_of_one_height, must_be_chain, must_be_closed, seam_terms, sum_of, weighed, weights_on,
)
from seamwright.errors import NoChain
from seamwright.holes import pieces_of, seam_table
from seamwright.solving import can_show, is_so_many_times, solved_by
from seamwright.steps import paper_of
from seamwright.webs import pieces


def bounds(web, chain):
    must_be_closed(web, chain)
    if len(chain) == 0:
        return ("fills", {})
    height = len(list(chain)[0]) - 1
    here = pieces_of(web, height)
    above = pieces_of(web, height + 1)
    told = solved_by(paper_of(seam_table(here, above), len(above)), weights_on(here, chain))
    if told[0] == "yes":
        return ("fills", chain_on(above, told[1]))
    return ("shows", chain_on(here, told[1]), told[2])


# Weights of another height than the chain's weigh nought on it, and so show nothing.
def shows(web, chain, weights, number):
    must_be_closed(web, chain)
    must_be_chain(web, weights)
    if not can_show(number) or is_so_many_times(weighed(web, weights, chain), number):
        return False
    return all([is_so_many_times(weighed_on_seam(weights, piece), number) for piece in pieces(web)])


def weighed_on_seam(weights, piece):
    return sum([weights.get(rim, 0) * often for rim, often in seam_terms(piece, 1)])


def is_alike(web, one, other):
    must_be_closed(web, one)
    must_be_closed(web, other)
    if not is_of_one_height(list(one) + list(other)):
        raise NoChain("these two chains are of unlike heights")
    less = [(piece, -other[piece]) for piece in other]
    return bounds(web, sum_of(list(one.items()) + less))[0] == "fills"
