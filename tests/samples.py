"""Webs, chains and tables for the tests, and what a web is, told anew by plain sets, to hold the program against."""

from itertools import combinations

EMPTY = []
POINT = [(5,)]
STRETCH = [(3, 7)]
TRIANGLE = [(1, 2, 3)]
HOLLOW = [(1, 3), (2, 3), (1, 2)]
MIXED = [(8, 9), (7,), (1, 2, 3), (3, 4), (2, 3)]
FULL = [(0, 1, 50, 98, 99)]
SPHERE = [(0, 1, 2), (0, 1, 3), (0, 2, 3), (1, 2, 3)]
TWENTY_POINTS = [(k,) for k in range(20)]
# Six times 31 pieces and twice 7.
TWO_HUNDRED = [tuple(range(5 * k, 5 * k + 5)) for k in range(6)] + [(30, 31, 32), (33, 34, 35)]
TORUS = [tuple(sorted([k, (k + step) % 7, (k + 3) % 7])) for k in range(7) for step in (1, 2)]
PLANE = [
    (0, 1, 2), (0, 2, 3), (0, 3, 4), (0, 4, 5), (0, 1, 5),
    (1, 2, 4), (2, 3, 5), (1, 3, 4), (2, 4, 5), (1, 3, 5),
]

NO_WEBS = {
    "21 pieces": [(k,) for k in range(21)],
    "201 pieces": [tuple(range(5 * k, 5 * k + 5)) for k in range(6)] + [(30, 31, 32, 33)],
    "620 pieces": [tuple(range(5 * k, 5 * k + 5)) for k in range(20)],
    "a piece twice": [(1, 2), (3,), (1, 2)],
    "point -1": [(-1,)],
    "point -1 ahead": [(-1, 4)],
    "point 100": [(100,)],
    "point 100 behind": [(4, 100)],
    "a far point": [(10 ** 29,)],
    "a far point below nought": [(1,), (-(10 ** 29), 3)],
    "points falling": [(2, 1)],
    "points falling at the end": [(1, 2, 5, 4)],
    "points alike": [(3, 3)],
    "a far point in the middle": [(1, 200, 3)],
    "a tuple of no point": [()],
    "a tuple of no point among others": [(1, 2), ()],
    "six points": [(1, 2, 3, 4, 5, 6)],
}


def varied_webs():
    """Some hundred webs, the same each time."""
    state = 1
    told = []
    for size in range(120):
        web = []
        for turn in range(size % 9):
            numbers = []
            for place in range(1 + (size + turn) % 5):
                state = (state * 1103515245 + 12345) % 2 ** 31
                numbers.append(state // 65536 % (4 + size % 7))
            piece = tuple(sorted(set(numbers)))
            if piece not in web:
                web.append(piece)
        told.append(web)
    return told


def named_webs():
    return [
        EMPTY, POINT, STRETCH, TRIANGLE, HOLLOW, MIXED, FULL, SPHERE,
        TWENTY_POINTS, TWO_HUNDRED, TORUS, PLANE,
    ]


def all_webs():
    return [list(web) for web in named_webs() + varied_webs()]


def plain_pieces(web):
    """The pieces of a web as a set of frozensets."""
    found = set()
    for piece in web:
        for size in range(1, len(piece) + 1):
            found.update(frozenset(part) for part in combinations(piece, size))
    return found


def told_in_order(sets):
    return sorted((tuple(sorted(piece)) for piece in sets), key=lambda piece: (len(piece), piece))


def plain_greatest(sets):
    return told_in_order([piece for piece in sets if not any(piece < other for other in sets)])


def varied_numbers(count, least, most, seed):
    """So many numbers from least to most, the same each time for one seed."""
    state = 7919 * (seed + 1)
    told = []
    for place in range(count):
        state = (state * 6364136223846793005 + 1442695040888963407) % 2 ** 64
        told.append(least + (state >> 24) % (most - least + 1))
    return told


def varied_chains(web, size, seed=0):
    """Chains of a web whose pieces have so many points: of all of them, of some of them, with far weights."""
    every = [piece for piece in told_in_order(plain_pieces(web)) if len(piece) == size]
    told = []
    for turn, reach in enumerate([1, 3, 10 ** 29]):
        weights = varied_numbers(len(every), -reach, reach, 3 * seed + turn)
        told.append({piece: weight for piece, weight in zip(reversed(every), weights) if weight != 0})
    return told


def webs_with_chains():
    """Tuples of a web and some of its chains, of all heights that it has, and the nought chain."""
    for seed, web in enumerate(all_webs()):
        sizes = sorted({len(piece) for piece in plain_pieces(web)})
        yield web, [{}] + [chain for size in sizes for chain in varied_chains(web, size, seed)]


def varied_table(rows, columns, seed=0, reach=9):
    numbers = varied_numbers(rows * columns, -reach, reach, seed)
    return [numbers[k * columns:(k + 1) * columns] for k in range(rows)]
