"""Maps for the tests, and what they do, told anew by plain sets, to hold the program against."""

from samples import plain_pieces, put_together, some_webs, varied_numbers

FAR = 10 ** 30 - 1

# Once round a ring is twice round a ring of half as many points.
TWICE = {0: 1, 1: 2, 2: 3, 3: 1, 4: 2, 5: 3}

# Dicts that are no map from MIXED to TRIANGLE; MIXED has the points 1, 2, 3, 4, 7, 8 and 9.
GOOD = {1: 1, 2: 2, 3: 3, 4: 1, 7: 2, 8: 3, 9: 3}
NO_MAPS = {
    "no points": {},
    "a point left out": {1: 1, 2: 2, 3: 3, 4: 1, 8: 3, 9: 3},
    "the last point left out": {1: 1, 2: 2, 3: 3, 4: 1, 7: 2, 8: 3},
    "a point too many": {**GOOD, 5: 1},
    "a point too many that is none": {**GOOD, 100: 1},
    "a point below nought too many": {**GOOD, -1: 1},
    "a point exchanged for another": {1: 1, 2: 2, 3: 3, 5: 1, 7: 2, 8: 3, 9: 3},
    "a number that is no point of the other web": {**GOOD, 7: 4},
    "a number that is no point at all": {**GOOD, 7: 100},
    "a number below nought": {**GOOD, 7: -1},
    "a far number": {**GOOD, 4: FAR},
    "a far point": {**GOOD, -FAR: 1},
    "each to no point": {point: 0 for point in GOOD},
}


def points(web):
    return sorted(point for piece in plain_pieces(web) if len(piece) == 1 for point in piece)


def plain_is_map(web, other, names):
    if set(names) != set(points(web)):
        return False
    return {frozenset(names[point] for point in piece) for piece in plain_pieces(web)} <= plain_pieces(other)


def led(web, names):
    """The web of the images, as a list that may be handed in."""
    return sorted({tuple(sorted({names[point] for point in piece})) for piece in web})


def parity(some):
    """0 or 1, by exchanging two of them at a time until they rise."""
    some = list(some)
    told = 0
    for k in range(len(some)):
        least = some.index(min(some[k:]), k)
        if least != k:
            some[k], some[least] = some[least], some[k]
            told ^= 1
    return told


def plain_carried(names, chain):
    terms = []
    for piece, weight in chain.items():
        under = [names[point] for point in piece]
        if len(set(under)) == len(under):
            terms.append(((-1) ** parity(under) * weight, {tuple(sorted(under)): 1}))
    return put_together(terms)


def identity(web):
    return {point: point for point in points(web)}


def varied_maps():
    """Tuples of a web, another one and a map between them: one to one, with points that fall together, to a point."""
    for seed, web in enumerate(some_webs()):
        every = points(web)
        for turn, reach in enumerate([99, len(every), 3, 1]):
            if turn == 0:
                # A step that shares no divisor with 100 leads no two points to one.
                under = [(37 * point + seed) % 100 for point in every]
            else:
                under = varied_numbers(len(every), 0, reach - 1, 5 * seed + turn)
            names = dict(zip(every, under))
            other = led(web, names)
            if len(other) < 15 and len(plain_pieces(other)) < 150:
                other += [piece for piece in [(0, 1, 2), (90, 91)] if piece not in other]
            yield web, other, names
