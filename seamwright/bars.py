"""Bars: when holes of a growing web are born and dead, by a prime, with the chains that show it."""

from seamwright.chains import seam_of, sum_of
from seamwright.errors import NoNumber
from seamwright.growing import must_be_order, must_be_time, order_by

PRIMES = (2, 3, 5, 7)


def must_be_prime(prime):
    if prime not in PRIMES:
        raise NoNumber("a prime is 2, 3, 5 or 7")


def bars(order, prime):
    return [row[:3] for row in paper(order, prime)]


# Under each time at which a bar was born stands its row, lasting so far. A piece whose seam can be worked off
# bears a bar; else what is left of the seam is filled, and the bar that its youngest piece bore is dead.
def paper(order, prime):
    must_be_order(order)
    must_be_prime(prime)
    times = times_of(order)
    rows = {}
    for time, piece in enumerate(order):
        found = worked_off(piece, rows, times, prime)
        if len(found[0]) == 0:
            rows[time] = (len(piece) - 1, time, None, found[1], None)
        else:
            born = times[youngest_of(found[0], times)]
            rows[born] = (len(piece) - 2, born, time, found[0], found[1])
    return [rows[born] for born in sorted(rows)]


def times_of(order):
    times = {}
    for time, piece in enumerate(order):
        times[piece] = time
    return times


# Told are what is left of a piece's seam and a chain, the piece its youngest one, whose seam that is. Chains that
# are filled already are taken off as long as the youngest piece left is that of one. What is left is closed, so
# its youngest piece always bore a bar: by the rest of it that piece's own seam could be worked off.
def worked_off(piece, rows, times, prime):
    filling = {piece: 1}
    left = taken_by(seam_of(filling), prime)
    while len(left) > 0:
        young = youngest_of(left, times)
        row = rows[times[young]]
        if row[2] is None:
            break
        often = times_into(row[3][young], left[young], prime)
        left = less_by(left, often, row[3], prime)
        filling = less_by(filling, often, row[4], prime)
    return (left, filling)


def youngest_of(chain, times):
    return max(list(chain), key=lambda piece: times[piece])


def taken_by(chain, prime):
    return sum_of([(piece, chain[piece] % prime) for piece in chain])


def times_into(weight, goal, prime):
    return [often for often in range(prime) if (often * weight - goal) % prime == 0][0]


def less_by(chain, often, other, prime):
    taken = [(piece, -often * other[piece]) for piece in other]
    return taken_by(sum_of(list(chain.items()) + taken), prime)


def is_paper(order, prime, paper):
    must_be_order(order)
    must_be_prime(prime)
    ends = [row[1] for row in paper] + [row[2] for row in paper if row[2] is not None]
    if sorted(ends) != list(range(len(order))):
        return False
    times = times_of(order)
    return all([is_bar(row, times, prime) for row in paper])


def is_bar(row, times, prime):
    if not is_chain_by(row[3], row[0], row[1], times, prime):
        return False
    if row[2] is None:
        return row[4] is None and len(taken_by(seam_of(row[3]), prime)) == 0
    if row[4] is None or not is_chain_by(row[4], row[0] + 1, row[2], times, prime):
        return False
    # A seam is closed, so the chain is.
    return taken_by(seam_of(row[4]), prime) == row[3]


# The nought chain has no youngest piece, and so shows nothing.
def is_chain_by(chain, height, time, times, prime):
    if not all([piece in times and len(piece) == height + 1 for piece in chain]):
        return False
    if not all([1 <= weight < prime for weight in chain.values()]):
        return False
    return len(chain) > 0 and times[youngest_of(chain, times)] == time


def alive(order, prime, high, time):
    return lasting(order, prime, high, time, time)


def lasting(order, prime, high, early, late):
    must_be_order(order)
    must_be_prime(prime)
    must_be_time(order, early)
    must_be_time(order, late)
    if late < early:
        raise NoNumber("the late time is ahead of the early one")
    there = [bar for bar in bars(order, prime) if bar[0] == high and bar[1] <= early]
    return len([bar for bar in there if bar[2] is None or bar[2] > late])


def bars_by(web, worths, prime):
    order = order_by(web, worths)
    told = []
    for bar in bars(order, prime):
        born = worths[order[bar[1]]]
        dead = None if bar[2] is None else worths[order[bar[2]]]
        if born != dead:
            told.append((bar[0], born, dead))
    return sorted(told, key=bar_key)


# None can't be held against a number, so whether a bar lasts goes ahead of when it is dead.
def bar_key(bar):
    return (bar[0], bar[1], bar[2] is None, 0 if bar[2] is None else bar[2])
