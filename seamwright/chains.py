"""Chains of a web: whole weights on pieces of one height, their seams, and weights weighed on them."""

from seamwright.errors import NoChain, NotClosed
from seamwright.parts import rims_of
from seamwright.webs import pieces, pieces_about


def is_chain(web, chain):
    every = pieces(web)
    if len(set(chain) - set(every)) > 0:
        return False
    if not is_of_one_height(list(chain)):
        return False
    return all([weight != 0 for weight in chain.values()])


def is_of_one_height(some):
    return len(set([len(piece) for piece in some])) <= 1


def must_be_chain(web, chain):
    if not is_chain(web, chain):
        raise NoChain("this dict is no chain of the web")


# The nought chain has no pieces, so it goes with a chain of any height.
def plus(web, one, other):
    must_be_chain(web, one)
    must_be_chain(web, other)
    if not is_of_one_height(list(one) + list(other)):
        raise NoChain("these two chains are of unlike heights")
    return sum_of(list(one.items()) + list(other.items()))


def times(web, chain, often):
    must_be_chain(web, chain)
    return sum_of([(piece, often * chain[piece]) for piece in chain])


def seam(web, chain):
    must_be_chain(web, chain)
    return seam_of(chain)


def seam_of(chain):
    terms = []
    for piece in chain:
        terms.extend(seam_terms(piece, chain[piece]))
    return sum_of(terms)


def is_closed(web, chain):
    return len(seam(web, chain)) == 0


def must_be_closed(web, chain):
    if not is_closed(web, chain):
        raise NotClosed("this chain is not closed")


# Chains of unlike heights share no piece, so they weigh nought.
def weighed(web, weights, chain):
    must_be_chain(web, weights)
    must_be_chain(web, chain)
    return sum([weights.get(piece, 0) * chain[piece] for piece in chain])


def around(web, piece):
    terms = []
    for other in pieces_about(web, piece):
        weights = dict(seam_terms(other, 1))
        terms.append((other, weights.get(piece, 0)))
    return sum_of(terms)


def seam_terms(piece, often):
    return [(rim, often if k % 2 == 0 else -often) for k, rim in enumerate(rims_of(piece))]


# Weights may cancel only once all are put together, so noughts are dropped at the end.
def sum_of(terms):
    sums = {}
    for piece, weight in terms:
        sums[piece] = sums.get(piece, 0) + weight
    told = {}
    for piece in sums:
        if sums[piece] != 0:
            told[piece] = sums[piece]
    return told


def weights_on(some, chain):
    return [chain.get(piece, 0) for piece in some]


def chain_on(some, weights):
    return sum_of(list(zip(some, weights)))
