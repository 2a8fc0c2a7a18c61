"""Orders and worths for the tests, and what they are, told anew by plain sets, to hold the program against."""

from samples import (
    EMPTY, NO_WEBS, PLANE, SPHERE, TORUS, TRIANGLE, TWO_HUNDRED, plain_pieces, plain_rims, some_webs, told_in_order,
    varied_numbers,
)

FAR = 10 ** 30 - 1
PRIMES = [2, 3, 5, 7]
NO_PRIMES = [0, 1, 4, 6, 8, 9, 10, 11, 13, 97, -1, -2, -3, -7, FAR, -FAR]

# A hundred points and a hundred stretches between them, far more greatest pieces than a web that is handed in has.
LONG_ORDER = [(k,) for k in range(100)] + [tuple(sorted([k, (k + 1) % 100])) for k in range(100)]
# Each piece as soon as its rims are there.
SOON = [(1,), (2,), (1, 2), (3,), (2, 3), (1, 3), (1, 2, 3)]

NO_ORDERS = {
    "a piece twice": [(1,), (2,), (1, 2), (1, 2)],
    "a point twice": [(1,), (1,)],
    "a point twice, far apart": [(1,), (2,), (1, 2), (1,)],
    "a stretch ahead of its points": [(1, 2), (1,), (2,)],
    "a stretch ahead of one of its points": [(1,), (1, 2), (2,)],
    "a stretch ahead of its first point": [(2,), (1, 2), (1,)],
    "a triangle ahead of a stretch": [(1,), (2,), (3,), (1, 2), (2, 3), (1, 2, 3), (1, 3)],
    "a stretch without its points": [(1, 2)],
    "a stretch without its second point": [(1,), (1, 2)],
    "a triangle without a stretch": [(1,), (2,), (3,), (1, 2), (2, 3), (1, 2, 3)],
    "a triangle without its stretches": [(1,), (2,), (3,), (1, 2, 3)],
    "a tuple of no point": [()],
    "a tuple of no point among others": [(1,), (), (2,)],
    "a tuple of no point at the end": [(1,), (2,), (1, 2), ()],
    "point -1": [(-1,)],
    "point 100": [(100,)],
    "a stretch to point 100": [(1,), (100,), (1, 100)],
    "a far point": [(1,), (FAR,)],
    "points falling": [(1,), (2,), (2, 1)],
    "points alike": [(1,), (1, 1)],
    "six points": told_in_order(plain_pieces([(1, 2, 3, 4, 5, 6)])),
    "six points alone": [(1, 2, 3, 4, 5, 6)],
    "201 pieces": told_in_order(plain_pieces(NO_WEBS["201 pieces"])),
    "201 pieces of a long order": LONG_ORDER + [(0, 2)],
    "620 pieces": told_in_order(plain_pieces(NO_WEBS["620 pieces"])),
}


def in_rising_order(web):
    return told_in_order(plain_pieces(web))


def varied_order(web, seed):
    """The pieces of a web, each behind its rims, else in any order; the same each time for one seed."""
    left = in_rising_order(web)
    told = []
    for number in varied_numbers(len(left), 0, 10 ** 6, seed):
        ready = [piece for piece in left if plain_rims(piece) <= set(told)]
        told.append(ready[number % len(ready)])
        left.remove(told[-1])
    return told


def varied_orders():
    for seed, web in enumerate(some_webs()):
        yield varied_order(web, seed)


def some_orders():
    """Orders of some heights, with holes by all primes, by some and by none."""
    return [
        EMPTY, [(5,)], SOON, in_rising_order(TRIANGLE), in_rising_order(SPHERE), in_rising_order(PLANE),
        varied_order(PLANE, 1), varied_order(TORUS, 2), in_rising_order(TWO_HUNDRED), LONG_ORDER,
    ]


def plain_is_order(order):
    if len(order) > 200 or len(set(order)) < len(order):
        return False
    for time, piece in enumerate(order):
        if not 1 <= len(piece) <= 5 or list(piece) != sorted(set(piece)) or not set(piece) <= set(range(100)):
            return False
        if not plain_rims(piece) <= set(order[:time]):
            return False
    return True
