"""Webs, chains and tables for the tests, and what a web is, told anew by plain sets, to hold the program against."""

from itertools import combinations

EMPTY = []
POINT = [(5,)]
STRETCH = [(3, 7)]
TRIANGLE = [(1, 2, 3)]
HOLLOW = [(1, 3), (2, 3), (1, 2)]
MIXED = [(8, 9), (7,), (1, 2, 3), (3, 4), (2, 3)]
FULL = [(0, 1, 50, 98, 99)]
SPHERE = [(0, 1, 2), (0, 1, 3), (0, 2, 3), (1, 2, 3)]
TWENTY_POINTS = [(k,) for k in range(20)]
# Six times 31 pieces and twice 7.
TWO_HUNDRED = [tuple(range(5 * k, 5 * k + 5)) for k in range(6)] + [(30, 31, 32), (33, 34, 35)]
TORUS = [tuple(sorted([k, (k + step) % 7, (k + 3) % 7])) for k in range(7) for step in (1, 2)]
PLANE = [
    (0, 1, 2), (0, 2, 3), (0, 3, 4), (0, 4, 5), (0, 1, 5),
    (1, 2, 4), (2, 3, 5), (1, 3, 4), (2, 4, 5), (1, 3, 5),
]
# Webs by their holes: spheres of the heights 3 and 4, rings that share a point, a web with a twisted hole of 2
# beside a free one, two with a twisted hole of 2 each, one with it a height further up, and one with 3: there
# the rim of a disk goes three times round the points 0, 1 and 2.
SPHERE_OF_3 = list(combinations(range(5), 4))
SPHERE_OF_4 = list(combinations(range(6), 5))
TWO_RINGS = [(0, 1), (1, 2), (0, 2), (0, 3), (3, 4), (0, 4)]
BOTTLE = [
    (0, 1, 3), (0, 1, 7), (0, 2, 3), (0, 2, 5), (0, 5, 6), (0, 6, 7), (1, 2, 4), (1, 2, 8), (1, 3, 4),
    (1, 7, 8), (2, 3, 8), (2, 4, 5), (3, 4, 6), (3, 6, 8), (4, 5, 7), (4, 6, 7), (5, 6, 8), (5, 7, 8),
]
TWO_PLANES = PLANE + [tuple(point + 6 for point in piece) for piece in PLANE]
PLANE_FURTHER_UP = [piece + (point,) for piece in PLANE for point in (6, 7)]
THREEFOLD = [
    (0, 1, 3), (1, 2, 3), (0, 2, 4), (0, 1, 5), (1, 2, 5), (0, 2, 6), (0, 1, 7), (1, 2, 7), (0, 2, 8),
    (2, 3, 4), (0, 4, 5), (2, 5, 6), (0, 6, 7), (2, 7, 8), (0, 3, 8),
    (3, 5, 7), (3, 4, 5), (5, 6, 7), (3, 7, 8),
]
RING_OF_SIX = [(0, 1), (1, 2), (2, 3), (3, 4), (4, 5), (0, 5)]
# A plane without a triangle, and one to which a triangle and a stretch are hung.
BAND = PLANE[1:]
HUNG = PLANE + [(0, 1, 6), (2, 9)]
# Twelve triangles, no two of which share a stretch, so that each of the nine points lies with each other one in just
# one of them. Behind the pushes at least 24 stretches are left.
NET = [
    (0, 1, 2), (3, 4, 5), (6, 7, 8), (0, 3, 6), (1, 4, 7), (2, 5, 8),
    (0, 4, 8), (1, 5, 6), (2, 3, 7), (0, 5, 7), (1, 3, 8), (2, 4, 6),
]

# How many holes of the heights 0 to 4 each has, and the twisted ones.
HOLES = [
    ("no pieces", EMPTY, [(0, []), (0, []), (0, []), (0, []), (0, [])]),
    ("a point", POINT, [(1, []), (0, []), (0, []), (0, []), (0, [])]),
    ("a stretch", STRETCH, [(1, []), (0, []), (0, []), (0, []), (0, [])]),
    ("three parts apart", MIXED, [(3, []), (0, []), (0, []), (0, []), (0, [])]),
    ("twenty points", TWENTY_POINTS, [(20, []), (0, []), (0, []), (0, []), (0, [])]),
    ("eight parts apart", TWO_HUNDRED, [(8, []), (0, []), (0, []), (0, []), (0, [])]),
    ("a ring", HOLLOW, [(1, []), (1, []), (0, []), (0, []), (0, [])]),
    ("two rings", TWO_RINGS, [(1, []), (2, []), (0, []), (0, []), (0, [])]),
    ("a disk", TRIANGLE, [(1, []), (0, []), (0, []), (0, []), (0, [])]),
    ("a sphere", SPHERE, [(1, []), (0, []), (1, []), (0, []), (0, [])]),
    ("a sphere of 3", SPHERE_OF_3, [(1, []), (0, []), (0, []), (1, []), (0, [])]),
    ("a sphere of 4", SPHERE_OF_4, [(1, []), (0, []), (0, []), (0, []), (1, [])]),
    ("a ball", FULL, [(1, []), (0, []), (0, []), (0, []), (0, [])]),
    ("a torus", TORUS, [(1, []), (2, []), (1, []), (0, []), (0, [])]),
    ("a plane", PLANE, [(1, []), (0, [2]), (0, []), (0, []), (0, [])]),
    ("a bottle", BOTTLE, [(1, []), (1, [2]), (0, []), (0, []), (0, [])]),
    ("two planes", TWO_PLANES, [(2, []), (0, [2, 2]), (0, []), (0, []), (0, [])]),
    ("a plane further up", PLANE_FURTHER_UP, [(1, []), (0, []), (0, [2]), (0, []), (0, [])]),
    ("threefold", THREEFOLD, [(1, []), (0, [3]), (0, []), (0, []), (0, [])]),
    ("a ring of six", RING_OF_SIX, [(1, []), (1, []), (0, []), (0, []), (0, [])]),
    ("a band", BAND, [(1, []), (1, []), (0, []), (0, []), (0, [])]),
    ("a plane with more hung to it", HUNG, [(1, []), (0, [2]), (0, []), (0, []), (0, [])]),
    ("a net", NET, [(1, []), (16, []), (0, []), (0, []), (0, [])]),
]

NO_WEBS = {
    "21 pieces": [(k,) for k in range(21)],
    "201 pieces": [tuple(range(5 * k, 5 * k + 5)) for k in range(6)] + [(30, 31, 32, 33)],
    "620 pieces": [tuple(range(5 * k, 5 * k + 5)) for k in range(20)],
    "a piece twice": [(1, 2), (3,), (1, 2)],
    "point -1": [(-1,)],
    "point -1 ahead": [(-1, 4)],
    "point 100": [(100,)],
    "point 100 behind": [(4, 100)],
    "a far point": [(10 ** 29,)],
    "a far point below nought": [(1,), (-(10 ** 29), 3)],
    "points falling": [(2, 1)],
    "points falling at the end": [(1, 2, 5, 4)],
    "points alike": [(3, 3)],
    "a far point in the middle": [(1, 200, 3)],
    "a tuple of no point": [()],
    "a tuple of no point among others": [(1, 2), ()],
    "six points": [(1, 2, 3, 4, 5, 6)],
}

# Of the web MIXED.
NO_CHAINS = {
    "a weight nought": {(1,): 0},
    "a weight nought among others": {(1, 2): 1, (2, 3): 0, (1, 3): 4},
    "two heights": {(1,): 1, (1, 2): 1},
    "two heights, far apart": {(1, 2, 3): 1, (7,): 1},
    "a piece that the web does not have": {(1, 4): 1},
    "a point that the web does not have": {(1,): 1, (50,): 2},
    "points falling": {(2, 1): 1},
    "points alike": {(1, 1): 1},
    "no points": {(): 1},
    "no points among others": {(1,): 1, (): 1},
    "a point that is none": {(100,): 1, (-1,): 1},
    "six points": {(1, 2, 3, 4, 5, 6): 1},
}

NO_TABLES = {
    "a longer row": [[1], [1, 2]],
    "a shorter row": [[1, 2], [1]],
    "a shorter row at the end": [[1, 2], [3, 4], [5]],
    "a row without numbers behind one": [[1], []],
    "a row without numbers ahead": [[], [1]],
    "a longer row in the middle": [[1], [1, 2], [1]],
    "41 rows": [[k] for k in range(41)],
    "41 rows without numbers": [[] for k in range(41)],
    "41 columns": [list(range(41))],
    "41 columns in 40 rows": [[k] * 41 for k in range(40)],
    "41 rows and columns": [[k] * 41 for k in range(41)],
    "one row of 41 numbers": [[1] * 40, [1] * 41],
}


def varied_webs():
    """Some hundred webs, the same each time."""
    state = 1
    told = []
    for size in range(120):
        web = []
        for turn in range(size % 9):
            numbers = []
            for place in range(1 + (size + turn) % 5):
                state = (state * 1103515245 + 12345) % 2 ** 31
                numbers.append(state // 65536 % (4 + size % 7))
            piece = tuple(sorted(set(numbers)))
            if piece not in web:
                web.append(piece)
        told.append(web)
    return told


def named_webs():
    return [
        EMPTY, POINT, STRETCH, TRIANGLE, HOLLOW, MIXED, FULL, SPHERE,
        TWENTY_POINTS, TWO_HUNDRED, TORUS, PLANE,
    ]


def all_webs():
    return [list(web) for web in named_webs() + varied_webs()]


def plain_pieces(web):
    """The pieces of a web as a set of frozensets."""
    found = set()
    for piece in web:
        for size in range(1, len(piece) + 1):
            found.update(frozenset(part) for part in combinations(piece, size))
    return found


def told_in_order(sets):
    return sorted((tuple(sorted(piece)) for piece in sets), key=lambda piece: (len(piece), piece))


def plain_greatest(sets):
    return told_in_order([piece for piece in sets if not any(piece < other for other in sets)])


def varied_numbers(count, least, most, seed):
    """So many numbers from least to most, the same each time for one seed."""
    state = 7919 * (seed + 1)
    told = []
    for place in range(count):
        state = (state * 6364136223846793005 + 1442695040888963407) % 2 ** 64
        told.append(least + (state >> 24) % (most - least + 1))
    return told


def varied_chains(web, size, seed=0):
    """Chains of a web whose pieces have so many points: of all of them, of some of them, with far weights."""
    every = [piece for piece in told_in_order(plain_pieces(web)) if len(piece) == size]
    told = []
    for turn, reach in enumerate([1, 3, 10 ** 29]):
        weights = varied_numbers(len(every), -reach, reach, 3 * seed + turn)
        told.append({piece: weight for piece, weight in zip(reversed(every), weights) if weight != 0})
    return told


def webs_with_chains():
    """Tuples of a web and some of its chains, of all heights that it has, and the nought chain."""
    for seed, web in enumerate(all_webs()):
        sizes = sorted({len(piece) for piece in plain_pieces(web)})
        yield web, [{}] + [chain for size in sizes for chain in varied_chains(web, size, seed)]


def plain_seam(chain):
    """The seam, by the place of the point that a piece has more than its rim."""
    told = {}
    for piece, weight in chain.items():
        for place, point in enumerate(piece):
            rim = tuple(other for other in piece if other != point)
            told[rim] = told.get(rim, 0) + (-1) ** place * weight
    return {rim: weight for rim, weight in told.items() if weight and rim}


def varied_table(rows, columns, seed=0, reach=9):
    numbers = varied_numbers(rows * columns, -reach, reach, seed)
    return [numbers[k * columns:(k + 1) * columns] for k in range(rows)]


def width(table):
    return len(table[0]) if table else 0


def plain_product(one, other):
    told = []
    for k in range(len(one)):
        told.append([])
        for j in range(width(other)):
            told[k].append(0)
            for place in range(len(other)):
                told[k][j] += one[k][place] * other[place][j]
    return told


def plain_slope(numbers, rows, columns):
    return [[numbers[k] if j == k and k < len(numbers) else 0 for j in range(columns)] for k in range(rows)]


def rank_by_prime(table, prime):
    """The rank by a prime, by taking rows off one another."""
    rows = [[number % prime for number in row] for row in table]
    told = 0
    for j in range(width(table)):
        leads = [k for k in range(told, len(rows)) if rows[k][j]]
        if not leads:
            continue
        rows[told], rows[leads[0]] = rows[leads[0]], rows[told]
        turn = pow(rows[told][j], -1, prime)
        for k in range(told + 1, len(rows)):
            often = rows[k][j] * turn
            rows[k] = [(number - often * top) % prime for number, top in zip(rows[k], rows[told])]
        told += 1
    return told


def put_together(terms):
    """The sum of chains, each so often, by tuples (often, chain)."""
    told = {}
    for often, chain in terms:
        for piece, weight in chain.items():
            told[piece] = told.get(piece, 0) + often * weight
    return {piece: weight for piece, weight in told.items() if weight}


def pieces_of_height(web, height):
    return [piece for piece in told_in_order(plain_pieces(web)) if len(piece) == height + 1]


def plain_table(web, height):
    """A row for each piece of the height: its seam, or nothing."""
    rims = pieces_of_height(web, height - 1)
    seams = [plain_seam({piece: 1}) for piece in pieces_of_height(web, height)]
    return [[seam.get(rim, 0) for rim in rims] for seam in seams]


def holes_by_prime(web, height, prime):
    ranks = [rank_by_prime(plain_table(web, high), prime) for high in [height, height + 1]]
    return len(pieces_of_height(web, height)) - sum(ranks)


def webs_with_holes():
    return [list(web) for name, web, told in HOLES]


def some_webs():
    return all_webs()[12::4] + webs_with_holes()


def plain_rims(piece):
    """The pieces with one point less, as a set."""
    return {rim for rim in combinations(piece, len(piece) - 1) if rim}


def plain_pairs(web):
    """All pairs of a web, in the order of their first pieces."""
    told = [(rim, piece) for piece in told_in_order(plain_pieces(web)) for rim in plain_rims(piece)]
    return sorted(told, key=lambda pair: (len(pair[0]), pair))
