import unittest

from seamwright.bars import alive, bars, bars_by, is_paper, lasting, paper
from seamwright.errors import NoNumber, NoOrder, NoWeb
from seamwright.growing import order_by, web_at, worths_by_points
from seamwright.holes import holes

from map_samples import points
from order_samples import (
    FAR, LONG_ORDER, NO_ORDERS, NO_PRIMES, PRIMES, SOON, in_rising_order, some_orders, varied_order, varied_orders,
)
from owned import Owned
from samples import (
    BAND, BOTTLE, EMPTY, FULL, HOLES, HOLLOW, MIXED, NO_WEBS, PLANE, POINT, RING_OF_SIX, SPHERE, STRETCH, THREEFOLD,
    TORUS, TRIANGLE, TWO_HUNDRED, TWO_PLANES, TWO_RINGS, holes_by_prime, plain_rims, plain_seam, put_together,
    rank_by_prime, some_webs, varied_numbers,
)

HEIGHTS = range(5)
NO_HEIGHTS = [-1, -2, 5, 6, 100, FAR, -FAR]


def by_prime(chain, prime):
    return {piece: weight % prime for piece, weight in chain.items() if weight % prime}


def plain_is_shown(order, prime, chain, height, time):
    """Whether a dict is a chain by the prime, of the height, whose youngest piece has the time."""
    if not chain or not all(piece in order and len(piece) == height + 1 for piece in chain):
        return False
    if not all(weight in range(1, prime) for weight in chain.values()):
        return False
    return max(order.index(piece) for piece in chain) == time


def plain_is_paper(order, prime, rows):
    ends = []
    for height, born, dead, chain, filling in rows:
        ends += [born] if dead is None else [born, dead]
        if not plain_is_shown(order, prime, chain, height, born) or by_prime(plain_seam(chain), prime):
            return False
        if (dead is None) != (filling is None):
            return False
        if dead is not None:
            if not plain_is_shown(order, prime, filling, height + 1, dead):
                return False
            if by_prime(plain_seam(filling), prime) != chain:
                return False
    return len(ends) == len(order) and set(ends) == set(range(len(order)))


def rank_of_seams(order, height, prime, outside=()):
    """The rank by the prime of the seams of the pieces of a height, all but what they have on some pieces left out."""
    seams = [plain_seam({piece: 1}) for piece in order if len(piece) == height + 1]
    rims = [piece for piece in order if len(piece) == height and piece not in outside]
    return rank_by_prime([[seam.get(rim, 0) for rim in rims] for seam in seams], prime)


def plain_lasting(order, prime, height, early, late):
    """Closed chains of the early web, less those of them that are seams in the late one."""
    first = order[:early + 1]
    last = order[:late + 1]
    closed = len([piece for piece in first if len(piece) == height + 1]) - rank_of_seams(first, height, prime)
    filled = rank_of_seams(last, height + 1, prime) - rank_of_seams(last, height + 1, prime, first)
    return closed - filled


def holes_by(every, high, prime):
    """The free holes, and the twisted ones that the prime divides, of the height and of the one below."""
    free, twisted = every.get(high, (0, []))
    return free + sum(number % prime == 0 for number in twisted + every.get(high - 1, (0, []))[1])


def more_orders():
    """Orders of webs with holes, free and twisted, each in rising order and in another one."""
    webs = [
        TRIANGLE, HOLLOW, MIXED, FULL, SPHERE, TWO_RINGS, TORUS, PLANE, BAND, BOTTLE, THREEFOLD, TWO_PLANES, TWO_HUNDRED,
    ]
    for seed, web in enumerate(webs):
        yield in_rising_order(web)
        yield varied_order(web, seed)


class Paper(unittest.TestCase):
    def look_at(self, order, prime):
        told = paper(order, prime)
        self.assertIs(plain_is_paper(order, prime, told), True)
        self.assertEqual([row[1] for row in told], sorted(row[1] for row in told))
        self.assertIs(is_paper(order, prime, told), True)
        self.assertEqual(bars(order, prime), [row[:3] for row in told])
        return told

    def test_all(self):
        for order in some_orders() + list(varied_orders()) + list(more_orders()):
            for prime in PRIMES:
                self.look_at(order, prime)

    def test_known(self):
        for order, told in [
            ([], []), ([(5,)], [(0, 0, None)]), ([(5,), (3,)], [(0, 0, None), (0, 1, None)]),
            ([(7,), (3,), (3, 7)], [(0, 0, None), (0, 1, 2)]),
            (SOON, [(0, 0, None), (0, 1, 2), (0, 3, 4), (1, 5, 6)]),
            (SOON[:6], [(0, 0, None), (0, 1, 2), (0, 3, 4), (1, 5, None)]),
            (in_rising_order(TRIANGLE), [(0, 0, None), (0, 1, 3), (0, 2, 4), (1, 5, 6)]),
            (in_rising_order(SPHERE), [
                (0, 0, None), (0, 1, 4), (0, 2, 5), (0, 3, 6), (1, 7, 10), (1, 8, 11), (1, 9, 12), (2, 13, None),
            ]),
        ]:
            for prime in PRIMES:
                with self.subTest(order=order, prime=prime):
                    self.assertEqual(bars(order, prime), told)

    def test_the_younger_one_dies(self):
        order = [(1,), (2,), (3,), (2, 3), (1, 3)]
        self.assertEqual(bars(order, 2), [(0, 0, None), (0, 1, 4), (0, 2, 3)])
        order = [(1,), (2,), (3,), (1, 2), (2, 3)]
        self.assertEqual(bars(order, 2), [(0, 0, None), (0, 1, 3), (0, 2, 4)])
        order = [(3,), (2,), (1,), (1, 3), (1, 2)]
        self.assertEqual(bars(order, 7), [(0, 0, None), (0, 1, 4), (0, 2, 3)])

    def test_what_shows_a_bar(self):
        told = paper(SOON, 3)
        self.assertEqual(told[0], (0, 0, None, {(1,): 1}, None))
        height, born, dead, chain, filling = told[3]
        self.assertIn((chain, filling), [
            ({(1, 2): often % 3, (1, 3): -often % 3, (2, 3): often % 3}, {(1, 2, 3): often}) for often in (1, 2)
        ])

    def test_primes_that_tell_otherwise(self):
        """The last triangle of a plane closes a chain by 2, and fills one by the others."""
        order = in_rising_order(PLANE)
        lasts = {prime: [bar for bar in bars(order, prime) if bar[2] is None] for prime in PRIMES}
        self.assertEqual([(bar[0]) for bar in lasts[2]], [0, 1, 2])
        for prime in [3, 5, 7]:
            self.assertEqual([bar[0] for bar in lasts[prime]], [0])
        order = in_rising_order(THREEFOLD)
        for prime in PRIMES:
            heights = [bar[0] for bar in bars(order, prime) if bar[2] is None]
            self.assertEqual(heights, [0, 1, 2] if prime == 3 else [0])

    def test_lasting_bars_are_the_holes(self):
        for name, web, told in HOLES:
            for prime in PRIMES:
                found = [bar[0] for bar in bars(in_rising_order(web), prime) if bar[2] is None]
                for height in HEIGHTS:
                    with self.subTest(name, prime=prime, height=height):
                        self.assertEqual(found.count(height), holes_by_prime(web, height, prime))

    def test_two_hundred_pieces(self):
        self.assertEqual(len(paper(in_rising_order(TWO_HUNDRED), 5)), 104)
        told = self.look_at(LONG_ORDER, 7)
        self.assertEqual([row[:3] for row in told if row[2] is None], [(0, 0, None), (1, 199, None)])
        # All stretches go round the one hole.
        self.assertEqual(set(told[-1][3]), set(LONG_ORDER[100:]))


class IsPaper(unittest.TestCase):
    def look_at(self, order, prime, rows):
        told = is_paper(order, prime, rows)
        self.assertIs(told, plain_is_paper(order, prime, rows))
        return told

    def cases(self):
        """Tuples of an order, a prime, and a told paper with a place in it and what stands there."""
        for order in [
            SOON, SOON[:6], in_rising_order(SPHERE), varied_order(PLANE, 3), in_rising_order(THREEFOLD)[:40],
            varied_order([(0, 1, 2, 3)], 4), [(4,), (2,), (9,), (2, 9)],
        ]:
            for prime in PRIMES:
                rows = paper(order, prime)
                for place, row in enumerate(rows):
                    yield order, prime, rows, place, row

    def refused(self, order, prime, rows, place, row):
        self.assertIs(self.look_at(order, prime, rows[:place] + [row] + rows[place + 1:]), False)

    def test_without_pieces(self):
        for prime in PRIMES:
            self.assertIs(is_paper([], prime, []), True)
            for row in [(0, 0, None, {(1,): 1}, None), (0, 0, None, {}, None), (0, -1, None, {}, None)]:
                self.assertIs(self.look_at([], prime, [row]), False)
            self.assertIs(self.look_at([(5,)], prime, []), False)

    def test_a_tuple_left_out_or_twice(self):
        for order, prime, rows, place, row in self.cases():
            self.assertIs(self.look_at(order, prime, rows[:place] + rows[place + 1:]), False)
            self.assertIs(self.look_at(order, prime, rows + [row]), False)
            self.assertIs(self.look_at(order, prime, rows[:place] + [row] + rows[place:]), False)
            other = rows[place - 1]
            if other != row:
                self.refused(order, prime, rows, place, other)

    def test_put_elsewhere(self):
        """A paper that is told goes by born, but a right one may go as it likes."""
        for order, prime, rows, place, row in self.cases():
            self.assertIs(self.look_at(order, prime, rows[place:] + rows[:place]), True)
            self.assertIs(self.look_at(order, prime, list(reversed(rows))), True)

    def test_another_height(self):
        for order, prime, rows, place, row in self.cases():
            for more in [1, -1, 2, -6, FAR]:
                self.refused(order, prime, rows, place, (row[0] + more,) + row[1:])

    def test_another_time(self):
        for order, prime, rows, place, row in self.cases():
            height, born, dead, chain, filling = row
            for other in list(range(-1, len(order) + 1, 3)) + [FAR, -FAR]:
                if other != born:
                    self.refused(order, prime, rows, place, (height, other, dead, chain, filling))
                if other != dead:
                    self.refused(order, prime, rows, place, (height, born, other, chain, filling))
            if dead is not None:
                self.refused(order, prime, rows, place, (height, born, None, chain, filling))
                self.refused(order, prime, rows, place, (height, born, None, chain, None))
                self.refused(order, prime, rows, place, (height, dead, born, chain, filling))

    def test_two_times_exchanged(self):
        """Each time is there just once still, but the chains show other ones."""
        for order, prime, rows, place, row in self.cases():
            other = rows[place - 1]
            if other == row:
                continue
            changed = list(rows)
            changed[place] = row[:1] + (other[1],) + row[2:]
            changed[place - 1] = other[:1] + (row[1],) + other[2:]
            self.assertIs(self.look_at(order, prime, changed), False)
            if row[2] != other[2]:
                changed[place] = row[:2] + (other[2],) + row[3:]
                changed[place - 1] = other[:2] + (row[2],) + other[3:]
                self.assertIs(self.look_at(order, prime, changed), False)

    def test_weights_that_are_none_by_the_prime(self):
        for order, prime, rows, place, row in self.cases():
            for spot in [3, 4]:
                if row[spot] is None:
                    continue
                for piece, weight in row[spot].items():
                    for other in [0, prime, weight - prime, weight + prime, -1, -weight, FAR]:
                        chain = {**row[spot], piece: other}
                        if other not in range(1, prime):
                            self.refused(order, prime, rows, place, row[:spot] + (chain,) + row[spot + 1:])

    def test_another_weight(self):
        for order, prime, rows, place, row in self.cases():
            for spot in [3, 4]:
                for piece, weight in (row[spot] or {}).items():
                    for other in range(1, prime):
                        chain = {**row[spot], piece: other}
                        self.look_at(order, prime, rows[:place] + [row[:spot] + (chain,) + row[spot + 1:]] + rows[place + 1:])

    def test_a_piece_more_or_less(self):
        found = [0, 0]
        for order, prime, rows, place, row in self.cases():
            for spot in [3, 4]:
                if row[spot] is None:
                    continue
                chains = [{key: row[spot][key] for key in row[spot] if key != piece} for piece in row[spot]]
                chains += [{**row[spot], piece: 1} for piece in order if piece not in row[spot]]
                for chain in chains:
                    changed = rows[:place] + [row[:spot] + (chain,) + row[spot + 1:]] + rows[place + 1:]
                    found[self.look_at(order, prime, changed)] += 1
        # An older point that is put to a chain of points leaves it closed.
        self.assertGreater(min(found), 0)

    def test_tuples_of_no_time(self):
        for order, prime, rows, place, row in self.cases():
            for spot in [3, 4]:
                if row[spot] is None:
                    continue
                size = row[0] + spot - 2
                for piece in [(), (77,), (77, 78), (2, 1), (1, 1), (100,), (-1,), (FAR,), tuple(range(50, 50 + size))]:
                    chain = {**row[spot], piece: 1}
                    self.refused(order, prime, rows, place, row[:spot] + (chain,) + row[spot + 1:])
                    self.refused(order, prime, rows, place, row[:spot] + ({piece: 1},) + row[spot + 1:])

    def test_the_nought_chain_shows_nothing(self):
        for order, prime, rows, place, row in self.cases():
            self.refused(order, prime, rows, place, row[:3] + ({}, row[4]))
            self.refused(order, prime, rows, place, row[:4] + ({},))
            self.refused(order, prime, rows, place, row[:3] + ({}, {}))
            self.refused(order, prime, rows, place, row[:3] + ({}, None))

    def test_a_filling_goes_with_a_bar_that_is_dead(self):
        for order, prime, rows, place, row in self.cases():
            height, born, dead, chain, filling = row
            if dead is not None:
                self.refused(order, prime, rows, place, (height, born, dead, chain, None))
                continue
            for piece in order:
                if len(piece) == height + 2:
                    self.refused(order, prime, rows, place, (height, born, None, chain, {piece: 1}))

    def test_a_chain_that_is_not_closed(self):
        """Two bars that last, in the place of one that is dead: the later chain is not closed."""
        order = [(7,), (3,), (3, 7)]
        rows = [(0, 0, None, {(7,): 1}, None), (0, 1, None, {(3,): 1}, None), (1, 2, None, {(3, 7): 1}, None)]
        for prime in PRIMES:
            self.assertIs(self.look_at(order, prime, rows), False)
            for count in range(3):
                self.assertIs(self.look_at(order[:count], prime, rows[:count]), True)

    def test_closed_by_another_prime_alone(self):
        order = in_rising_order(PLANE)
        rows = paper(order, 2)
        for prime in [3, 5, 7]:
            self.assertIs(self.look_at(order, prime, rows), False)
            self.assertIs(self.look_at(order, 2, paper(order, prime)), False)

    def test_other_right_papers(self):
        for order in [SOON, in_rising_order(SPHERE), varied_order(TORUS, 1), in_rising_order(TWO_RINGS), in_rising_order(PLANE)]:
            for prime in PRIMES:
                rows = paper(order, prime)
                for often in range(1, prime):
                    self.assertIs(self.look_at(order, prime, [multiplied(row, often, prime) for row in rows]), True)
                for turn in range(3):
                    other = mixed(order, prime, rows, turn)
                    self.assertIs(self.look_at(order, prime, other), True)
                    self.assertEqual(sorted(row[1] for row in other), [row[1] for row in rows])
        # The papers that were looked at are not all the one that is told.
        self.assertNotEqual(mixed(order, 7, rows, 1), rows)

    def test_a_mix_with_a_younger_chain(self):
        """The chain of a bar that lasts has no piece younger than its own time."""
        order = in_rising_order(TWO_RINGS)
        rows = paper(order, 3)
        older, younger = [row for row in rows if row[0] == 1]
        both = by_prime(put_together([(1, older[3]), (1, younger[3])]), 3)
        place = rows.index(older)
        self.refused(order, 3, rows, place, older[:3] + (both, None))
        self.assertIs(is_paper(order, 3, rows[:place] + [older, younger[:3] + (both, None)]), True)

    def test_one_bar_for_two(self):
        """Each is a bar with what shows it, but some time is born or dead of two of them, or of none."""
        order = [(1,), (2,), (3,), (1, 2), (2, 3)]
        rows = paper(order, 2)
        self.assertEqual([row[:3] for row in rows], [(0, 0, None), (0, 1, 3), (0, 2, 4)])
        lasts = (0, 1, None, {(1,): 1, (2,): 1}, None)
        self.assertIs(self.look_at(order, 2, rows + [lasts]), False)
        self.assertIs(self.look_at(order, 2, [rows[0], lasts, rows[2]]), False)
        self.assertIs(self.look_at(order, 2, [lasts, rows[1], rows[2]]), False)
        # Another filling, dead later, of the same chain.
        late = (0, 2, 4, {(1,): 1, (3,): 1}, {(1, 2): 1, (2, 3): 1})
        self.assertIs(self.look_at(order, 2, [rows[0], rows[1], late]), True)
        self.assertIs(self.look_at(order, 2, [rows[0], rows[1], rows[2], late]), False)


def multiplied(row, often, prime):
    height, born, dead, chain, filling = row
    both = [None if some is None else by_prime(put_together([(often, some)]), prime) for some in (chain, filling)]
    return (height, born, dead, both[0], both[1])


def mixed(order, prime, rows, seed):
    """Another right paper: to each bar is put what older ones have, as long as it lasts no longer."""
    numbers = iter(varied_numbers(4 * len(rows) ** 2, 0, prime - 1, seed))
    told = []
    for height, born, dead, chain, filling in rows:
        for row in rows:
            often = next(numbers)
            if row[0] == height and row[1] < born and (dead is None or row[2] is not None and row[2] < dead):
                chain = put_together([(1, chain), (often, row[3])])
                if dead is not None:
                    filling = put_together([(1, filling), (often, row[4])])
            elif filling is not None and row[0] == height + 1 and row[1] < dead:
                filling = put_together([(1, filling), (often, row[3])])
        told.append((height, born, dead, by_prime(chain, prime), None if filling is None else by_prime(filling, prime)))
    return told


class Alive(unittest.TestCase):
    def test_known(self):
        for prime in PRIMES:
            self.assertEqual([alive(SOON, prime, 0, time) for time in range(7)], [1, 2, 1, 2, 1, 1, 1])
            self.assertEqual([alive(SOON, prime, 1, time) for time in range(7)], [0, 0, 0, 0, 0, 1, 0])
            self.assertEqual([alive(SOON, prime, 2, time) for time in range(7)], [0] * 7)
        order = in_rising_order(PLANE)
        self.assertEqual([alive(order, prime, 1, 30) for prime in PRIMES], [1, 0, 0, 0])
        self.assertEqual([alive(order, prime, 2, 30) for prime in PRIMES], [1, 0, 0, 0])
        self.assertEqual([alive(order, prime, 1, 29) for prime in PRIMES], [1, 1, 1, 1])

    def test_the_holes_of_the_web_at_that_time(self):
        orders = [in_rising_order(web) for web in [MIXED, SPHERE, PLANE, TORUS, THREEFOLD]]
        orders += [varied_order(web, seed) for seed, web in enumerate([FULL, PLANE, BOTTLE, THREEFOLD])]
        found = 0
        for order in orders:
            for time in range(len(order)):
                web = web_at(order, time)
                if len(web) > 20 or time % 3 != 0 and time < len(order) - 4:
                    continue
                every = {height: holes(web, height) for height in HEIGHTS}
                for high in [-1, 0, 1, 2, 3, 4, 5]:
                    for prime in PRIMES:
                        told = alive(order, prime, high, time)
                        self.assertEqual(told, holes_by(every, high, prime))
                        found += told > 0 and high > 0
        self.assertGreater(found, 100)

    def test_by_ranks_at_each_time(self):
        for order in list(varied_orders())[::5] + [in_rising_order(THREEFOLD), varied_order(TWO_PLANES, 1)]:
            for time in range(0, len(order), 1 + len(order) // 25):
                for prime in PRIMES:
                    for high in HEIGHTS:
                        told = alive(order, prime, high, time)
                        self.assertEqual(told, holes_by_prime(order[:time + 1], high, prime))

    def test_heights_that_no_piece_has(self):
        for order in some_orders()[1:]:
            for high in NO_HEIGHTS + [len(max(order, key=len))]:
                for time in [0, len(order) - 1]:
                    self.assertEqual(alive(order, 3, high, time), 0)
                self.assertEqual(lasting(order, 3, high, 0, len(order) - 1), 0)

    def test_no_number_of_a_time(self):
        for order in some_orders():
            for time in [-1, len(order), len(order) + 1, -len(order) - 1, FAR, -FAR]:
                for high in [0, -1, 7]:
                    with self.subTest(length=len(order), time=time), self.assertRaises(NoNumber):
                        alive(order, 2, high, time)


class Lasting(unittest.TestCase):
    def test_known(self):
        for prime in PRIMES:
            self.assertEqual(lasting(SOON, prime, 0, 1, 1), 2)
            self.assertEqual(lasting(SOON, prime, 0, 1, 2), 1)
            # Two at both times, but not the same two.
            self.assertEqual(lasting(SOON, prime, 0, 1, 3), 1)
            self.assertEqual(lasting(SOON, prime, 0, 3, 4), 1)
            self.assertEqual(lasting(SOON, prime, 1, 5, 5), 1)
            self.assertEqual(lasting(SOON, prime, 1, 5, 6), 0)
            self.assertEqual(lasting(SOON, prime, 1, 4, 5), 0)
            self.assertEqual(lasting(SOON, prime, 0, 0, 6), 1)

    def test_to_the_same_time(self):
        for order in [SOON, in_rising_order(SPHERE), varied_order(PLANE, 6)]:
            for time in range(len(order)):
                for high in [-1, 0, 1, 2, 3]:
                    for prime in PRIMES:
                        self.assertEqual(lasting(order, prime, high, time, time), alive(order, prime, high, time))

    def test_from_each_time_to_each_later_one(self):
        for order in [SOON, in_rising_order(SPHERE), varied_order(SPHERE, 2), varied_order([(0, 1, 2, 3)], 1)]:
            for early in range(len(order)):
                for late in range(early, len(order)):
                    for prime in [2, 7]:
                        for high in range(4):
                            told = lasting(order, prime, high, early, late)
                            self.assertEqual(told, plain_lasting(order, prime, high, early, late))

    def test_webs_with_twisted_holes(self):
        found = 0
        for order in [varied_order(PLANE, 2), in_rising_order(THREEFOLD), varied_order(TORUS, 4), in_rising_order(BOTTLE)]:
            times = list(range(0, len(order), 5)) + [len(order) - 1]
            for early in times:
                for late in [time for time in times if time >= early]:
                    for prime in PRIMES:
                        for high in range(3):
                            told = lasting(order, prime, high, early, late)
                            self.assertEqual(told, plain_lasting(order, prime, high, early, late))
                            found += told > 0 and high > 0 and late > early
        self.assertGreater(found, 50)

    def test_no_number_of_the_times(self):
        size = len(SOON)
        for early, late in [
            (-1, 0), (0, size), (size, size), (-1, size), (3, 2), (size - 1, 0), (1, 0), (-1, -1), (0, -1), (FAR, 0),
            (0, FAR), (-FAR, FAR), (size, 0),
        ]:
            for high in [0, 1, -1, 9]:
                with self.subTest(early=early, late=late), self.assertRaises(NoNumber):
                    lasting(SOON, 2, high, early, late)
        for early, late in [(0, 0), (-1, 0), (0, 1)]:
            with self.subTest(early=early, late=late), self.assertRaises(NoNumber):
                lasting([], 2, 0, early, late)


def plain_bars_by(web, worths, prime):
    """By the bars of the order by worths, counted by their worths."""
    order = sorted(worths, key=lambda piece: (worths[piece], len(piece), piece))
    told = []
    for height, born, dead in bars(order, prime):
        ends = [None if time is None else worths[order[time]] for time in (born, dead)]
        if ends[0] != ends[1]:
            told.append((height, ends[0], ends[1]))
    lasts = [bar for bar in told if bar[2] is None]
    told = sorted([bar for bar in told if bar[2] is not None] + [bar[:2] + (10 ** 60,) for bar in lasts])
    return [bar[:2] + (None if bar[2] == 10 ** 60 else bar[2],) for bar in told]


class BarsBy(unittest.TestCase):
    def test_known(self):
        two = {(1,): 0, (2,): 0, (1, 2): 0}
        for web, worths, told in [
            (EMPTY, {}, []), (POINT, {(5,): -3}, [(0, -3, None)]),
            ([(1, 2)], two, [(0, 0, None)]), ([(1, 2)], {**two, (1, 2): 4}, [(0, 0, 4), (0, 0, None)]),
            ([(1, 2)], {**two, (2,): -6, (1, 2): 4}, [(0, -6, None), (0, 0, 4)]),
            ([(1, 2)], {(1,): -FAR, (2,): FAR - 1, (1, 2): FAR}, [(0, -FAR, None), (0, FAR - 1, FAR)]),
        ]:
            for prime in PRIMES:
                with self.subTest(web=web, worths=worths, prime=prime):
                    self.assertEqual(bars_by(web, worths, prime), told)

    def test_as_often_as_there_are_such(self):
        worths = {piece: len(piece) for piece in in_rising_order(SPHERE)}
        told = [(0, 1, 2)] * 3 + [(0, 1, None)] + [(1, 2, 3)] * 3 + [(2, 3, None)]
        for prime in PRIMES:
            self.assertEqual(bars_by(SPHERE, worths, prime), told)

    def test_by_heights_then_by_worths_lasting_ones_behind(self):
        web = [(1, 2), (3, 4), (5, 6), (7,), (5, 7), (6, 7)]
        worths = {(k,): 0 for k in range(1, 8)}
        worths.update({(1, 2): 30, (3, 4): 4, (5, 6): 5, (5, 7): 5, (6, 7): 6})
        told = [(0, 0, 4), (0, 0, 5), (0, 0, 5), (0, 0, 30), (0, 0, None), (0, 0, None), (0, 0, None), (1, 6, None)]
        for prime in PRIMES:
            self.assertEqual(bars_by(web, worths, prime), told)
            self.assertEqual(bars_by(list(reversed(web)), worths, prime), told)

    def test_heights_go_ahead_of_worths(self):
        """A ring that is there early, and a point that comes late."""
        web = [(1, 2), (2, 3), (1, 3), (4,), (0, 1)]
        worths = {piece: -5 for piece in in_rising_order(HOLLOW)}
        worths.update({(4,): 9, (0,): 2, (0, 1): 3})
        told = [(0, -5, None), (0, 2, 3), (0, 9, None), (1, -5, None)]
        self.assertEqual(bars_by(web, worths, 5), told)

    def test_none_that_is_dead_at_the_worth_at_which_it_is_born(self):
        for name, web, told in HOLES:
            for prime in PRIMES:
                found = bars_by(web, {piece: 4 for piece in in_rising_order(web)}, prime)
                expected = [(height, 4, None) for height in HEIGHTS for k in range(holes_by_prime(web, height, prime))]
                with self.subTest(name, prime=prime):
                    self.assertEqual(found, expected)

    def test_worths_by_points(self):
        for seed, web in enumerate(some_webs()):
            every = points(web)
            worths = worths_by_points(web, dict(zip(every, varied_numbers(len(every), -3, 3, seed))))
            for prime in PRIMES:
                told = bars_by(web, worths, prime)
                self.assertEqual(told, plain_bars_by(web, worths, prime))
                self.assertTrue(all(bar[2] is None or bar[1] < bar[2] for bar in told))

    def test_at_each_worth_the_holes(self):
        """Of the pieces up to a worth."""
        for seed, web in enumerate([TORUS, PLANE, RING_OF_SIX, THREEFOLD, BOTTLE]):
            every = in_rising_order(web)
            worths = {}
            for piece, more in zip(every, varied_numbers(len(every), 0, 2, seed)):
                worths[piece] = max([worths[rim] for rim in plain_rims(piece)], default=-4) + more
            for prime, worth in [(prime, worth) for prime in PRIMES for worth in sorted(set(worths.values()))]:
                there = [piece for piece in every if worths[piece] <= worth]
                found = [
                    bar[0] for bar in bars_by(web, worths, prime)
                    if bar[1] <= worth and (bar[2] is None or bar[2] > worth)
                ]
                for height in range(4):
                    self.assertEqual(found.count(height), holes_by_prime(there, height, prime))

    def test_refusals(self):
        flat = {piece: 0 for piece in in_rising_order(TRIANGLE)}
        less = {**flat, (1, 2, 3): -1}
        for prime in NO_PRIMES + PRIMES:
            for name, web in NO_WEBS.items():
                for worths in [{}, flat, {piece: 0 for piece in web}]:
                    with self.subTest(name, prime=prime), self.assertRaises(NoWeb):
                        bars_by(list(web), worths, prime)
            for worths in [{}, less, {**flat, (4,): 0}, {**flat, (): 1}, {(1,): 0}]:
                with self.subTest(worths=worths, prime=prime), self.assertRaises(NoOrder):
                    bars_by(TRIANGLE, worths, prime)
        for prime in NO_PRIMES:
            with self.subTest(prime=prime), self.assertRaises(NoNumber):
                bars_by(TRIANGLE, flat, prime)
            with self.subTest(prime=prime), self.assertRaises(NoNumber):
                bars_by(EMPTY, {}, prime)


class Refusals(unittest.TestCase):
    def calls(self, order, prime, time):
        return [
            lambda: bars(list(order), prime), lambda: paper(list(order), prime),
            lambda: is_paper(list(order), prime, []), lambda: alive(list(order), prime, 0, time),
            lambda: lasting(list(order), prime, 0, time, time),
            lambda: is_paper(list(order), prime, [(0, 0, None, {(1,): 0}, {})]),
        ]

    def test_no_order_goes_ahead_of_no_number(self):
        for name, order in NO_ORDERS.items():
            for prime in [2, 7, 4, -1]:
                for time in [0, -1, len(order), FAR]:
                    for place, call in enumerate(self.calls(order, prime, time)):
                        with self.subTest(name, place=place), self.assertRaises(NoOrder):
                            call()
                    with self.subTest(name), self.assertRaises(NoOrder):
                        lasting(list(order), prime, 0, 1, 0)

    def test_no_number_of_a_prime(self):
        for order in [[], [(5,)], SOON]:
            for prime in NO_PRIMES:
                for place, call in enumerate(self.calls(order, prime, 0)):
                    with self.subTest(prime=prime, place=place), self.assertRaises(NoNumber):
                        call()


class OwnBars(Owned, unittest.TestCase):
    def cases(self):
        for order in [[], [(5,)], SOON, in_rising_order(SPHERE), varied_order(PLANE, 1), varied_order(TWO_RINGS, 2)]:
            for prime in [2, 5]:
                rows = paper(order, prime)
                yield bars, (list(order), prime)
                yield paper, (list(order), prime)
                yield is_paper, (list(order), prime, rows)
                yield is_paper, (list(order), prime, [row[:3] + ({(1,): 9, (): 0}, None) for row in rows])
                if order:
                    yield alive, (list(order), prime, 0, len(order) - 1)
                    yield lasting, (list(order), prime, 0, 0, len(order) - 1)
        for web in [EMPTY, STRETCH, SPHERE, PLANE]:
            yield bars_by, (list(web), {piece: len(piece) for piece in in_rising_order(web)}, 3)

    def test_refused_ones_are_the_same_behind(self):
        for function, handed, error in [
            (bars, (list(NO_ORDERS["points falling"]), 2), NoOrder), (paper, (list(SOON), 4), NoNumber),
            (is_paper, (list(SOON), 9, paper(SOON, 3)), NoNumber), (lasting, (list(SOON), 2, 0, 3, 1), NoNumber),
            (bars_by, (list(TRIANGLE), {(1,): 0, (7, 3): 2}, 2), NoOrder),
        ]:
            before = repr(handed)
            with self.assertRaises(error):
                function(*handed)
            self.assertEqual(repr(handed), before)

    def test_an_order_told_and_handed_in_again(self):
        order = order_by([(k,) for k in range(4)], {(k,): 5 for k in range(4)})
        self.assertEqual(bars(order, 2), [(0, k, None) for k in range(4)])


if __name__ == "__main__":
    unittest.main()
