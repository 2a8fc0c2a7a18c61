"""Pairings: pairs of pieces without a round, and the thin seams of the pieces that are left over."""

from seamwright.chains import seam_terms, sum_of
from seamwright.errors import NoPush
from seamwright.parts import in_order, rims_of
from seamwright.webs import pieces


def judged(web, pairs):
    bad = first_bad(pieces(web), pairs)
    if bad is not None:
        return ("bad", bad)
    found = first_round(pairs)
    if len(found) > 0:
        return ("round", found)
    return ("pairing",)


def first_bad(every, pairs):
    stands = {}
    for k, pair in enumerate(pairs):
        if not is_pair(every, pair) or any([piece in stands for piece in pair]):
            return k
        for piece in pair:
            stands[piece] = True
    return None


def is_pair(every, pair):
    return pair[1] in every and pair[0] in rims_of(pair[1])


def first_round(pairs):
    seconds = {}
    for pair in pairs:
        found = round_with(seconds, pair)
        if len(found) > 0:
            return found
        seconds[pair[0]] = pair[1]
    return []


# Pairs without a round are handed in by a dict, and a pair that comes to them. A round that comes with it goes
# through it, so a look at where its steps lead is enough; told is one, or no pairs where there is none.
def round_with(seconds, new):
    rows = [[new]]
    seen = {}
    while len(rows) > 0:
        row = rows.pop()
        for rim in other_rims(row[-1]):
            if rim == new[0]:
                return row
            if rim in seconds and rim not in seen:
                seen[rim] = True
                rows.append(row + [(rim, seconds[rim])])
    return []


def other_rims(pair):
    return [rim for rim in rims_of(pair[1]) if rim != pair[0]]


# A pair that can't be put to some pairs can't be put to more of them either, so one look at each is enough. With the
# greater pieces ahead fewer ones tend to be left over.
def pairing(web):
    seconds = {}
    stands = {}
    for pair in pairs_of(pieces(web)):
        if any([piece in stands for piece in pair]) or len(round_with(seconds, pair)) > 0:
            continue
        seconds[pair[0]] = pair[1]
        for piece in pair:
            stands[piece] = True
    return [(piece, seconds[piece]) for piece in in_order(list(seconds))]


def pairs_of(every):
    told = []
    for piece in reversed(every):
        told.extend([(rim, piece) for rim in rims_of(piece)])
    return told


def left_over(web, pairs):
    if judged(web, pairs) != ("pairing",):
        raise NoPush("this list is no pairing of the web")
    stands = {}
    for pair in pairs:
        for piece in pair:
            stands[piece] = True
    return [piece for piece in pieces(web) if piece not in stands]


def thin_seams(web, pairs):
    left = left_over(web, pairs)
    ends = ends_of(left, pairs)
    return [(piece, brought_to_ends(seam_terms(piece, 1), ends)) for piece in left]


# Under each piece stands what the roads from it come to: under one that is left over itself, and under the first
# of a pair what those of the other rims come to. Second pieces lead nowhere and have nothing. As there is no round,
# each turn finds a pair whose other rims are all known.
def ends_of(left, pairs):
    ends = {}
    for piece in left:
        ends[piece] = {piece: 1}
    for pair in pairs:
        ends[pair[1]] = {}
    waiting = list(pairs)
    while len(waiting) > 0:
        later = []
        for pair in waiting:
            if all([rim in ends for rim in other_rims(pair)]):
                ends[pair[0]] = brought_to_ends(step_terms(pair), ends)
            else:
                later.append(pair)
        waiting = later
    return ends


def step_terms(pair):
    weights = dict(seam_terms(pair[1], 1))
    return [(rim, -weights[rim] * weights[pair[0]]) for rim in other_rims(pair)]


def brought_to_ends(terms, ends):
    told = []
    for rim, often in terms:
        told.extend([(piece, often * worth) for piece, worth in ends[rim].items()])
    return sum_of(told)
