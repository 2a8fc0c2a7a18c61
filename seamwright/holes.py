"""The holes of a web: closed chains that go round them, and how often a closed chain does so."""

from seamwright.chains import chain_on, must_be_chain, must_be_closed, seam_terms, weights_on
from seamwright.errors import NoChain, NoNumber
from seamwright.solving import leaves_of
from seamwright.steps import mix_of, paper_of
from seamwright.tables import columns_of, columns_to, row_by, rows_by
from seamwright.webs import must_be_web, pieces

LAST_HEIGHT = 4


def holes(web, height):
    told = rounds(web, height)
    return (len(told[0]), [twisted[1] for twisted in told[1]])


def rounds(web, height):
    must_be_web(web)
    must_be_height(height)
    here = pieces_of(web, height)
    above = pieces_of(web, height + 1)
    view = view_of(web, height)
    free = [chain_on(here, weights) for weights in view[0][len(view[2]):]]
    twisted = []
    for k, step in enumerate(view[2]):
        if step > 1:
            twisted.append((chain_on(here, view[0][k]), step, chain_on(above, view[3][k])))
    return (free, twisted)


def told_by(web, height, chain):
    must_be_web(web)
    must_be_height(height)
    must_be_chain(web, chain)
    if not all([len(piece) == height + 1 for piece in chain]):
        raise NoChain("this chain is of another height")
    must_be_closed(web, chain)
    view = view_of(web, height)
    sums = sums_by(view, pieces_of(web, height), chain)
    filling = mix_of([total // step for total, step in zip(sums, view[2])], view[3])
    return often_by(view, sums) + (chain_on(pieces_of(web, height + 1), filling),)


def sums_by(view, here, chain):
    return row_by(weights_on(here, chain), view[1])


def often_by(view, sums):
    steps = view[2]
    return (sums[len(steps):], [total % step for total, step in zip(sums, steps) if step > 1])


def must_be_height(height):
    if not 0 <= height <= LAST_HEIGHT:
        raise NoNumber("a height is from 0 to 4")


# A tuple (made, asked, steps, fillers). Each closed chain is in just one way made of the made ones; the asked
# weights, weighed on it, tell how often of each. So many times as its step tells a made chain is the seam of
# its filler: one with the step 1 goes round nothing, one behind the steps is free.
def view_of(web, height):
    here = pieces_of(web, height)
    above = pieces_of(web, height + 1)
    paper = paper_of(seam_table(pieces_of(web, height - 1), here), len(here))
    closed = leaves_of(paper)
    asked = paper[3][len(paper[4]):]
    # Seams are closed, so they are made of the closed chains, too.
    inner = paper_of(rows_by(asked, seam_columns(here, above)), len(above))
    return (
        [mix_of(often, closed) for often in columns_of(inner[1])],
        [mix_of(often, asked) for often in inner[0]],
        inner[4],
        columns_of(inner[2]),
    )


def pieces_of(web, height):
    return [piece for piece in pieces(web) if len(piece) == height + 1]


def seam_table(here, above):
    return columns_to(seam_columns(here, above), len(here))


def seam_columns(here, above):
    return [weights_on(here, dict(seam_terms(piece, 1))) for piece in above]
