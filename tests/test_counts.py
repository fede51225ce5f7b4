import itertools
import math
import random
import unittest

from samples import (
    IN_PIECES, LADDER, SQUARE, WEBS_LISTS, bare, check_fresh, check_kinds, check_no_webs, full, many_ties, near_sets,
    path, petersen, product_by_words, ring, row_refusals, rows_by_order, star, table_by_words,
)
from webtimes.counts import by_distance, far, fours, threes, walks_many, ways_many, widest

# Lists whose product a slow way can go through, in one piece and in several.
LISTS = [webs for webs in WEBS_LISTS if product_by_words(webs)[0] <= 40] + [
    [LADDER], [SQUARE, path(3)], [ring(3), ring(4)], [full(4), path(3)], [IN_PIECES], [(4, [(0, 2), (1, 3)]), path(3)],
    [petersen(), path(2)], [star(5), ring(3)], [(4, [(0, 1), (0, 2), (0, 3), (1, 2), (1, 3)]), path(2), path(2)],
]
# Products of more rows than any web has places, but few enough for a slow way.
BEYOND = [
    [path(3)] * 4, [ring(4), ring(3), path(4), bare(2)], [full(4), full(4), full(3)], [IN_PIECES, path(3), ring(4)],
]
BIG = [
    path(40), many_ties(), ring(40), full(16), petersen(), bare(1), path(2), star(6), LADDER, path(3), ring(5), path(7),
]


def some_pairs(rows, seed):
    """Pairs of numbers of rows: all of few rows, else some, those of a row and itself too."""
    pairs = list(itertools.product(range(len(rows)), range(len(rows))))
    if len(pairs) <= 150:
        return pairs
    return random.Random(seed).sample(pairs, 100) + [(0, 0), (len(rows) - 1, len(rows) - 1)]


def ways_by_words(web, far_all, one, other):
    """How many shortest ways there are, by the first steps that they may take."""
    near = near_sets(web)
    if far_all[one][other] is None:
        return 0
    ways = {other: 1}
    for steps in range(1, far_all[one][other] + 1):
        at_steps = [place for place in range(web[0]) if far_all[place][other] == steps]
        ways = {place: sum(ways.get(there, 0) for there in near[place]) for place in at_steps}
    return ways[one]


def walks_by_words(web, one, other, steps):
    near = near_sets(web)
    walks = {one: 1}
    for _ in range(steps):
        ahead = {}
        for place, many in walks.items():
            for there in near[place]:
                ahead[there] = ahead.get(there, 0) + many
        walks = ahead
    return walks.get(other, 0)


def rings_by_words(web, size):
    """How many sets of ties make a ring of so many places."""
    near = near_sets(web)
    found = set()
    for places in itertools.permutations(range(web[0]), size):
        if all(places[k] in near[places[k - 1]] for k in range(size)):
            found.add(frozenset(frozenset([places[k], places[k - 1]]) for k in range(size)))
    return len(found)


class Far(unittest.TestCase):
    def test_products_by_words(self):
        for webs in LISTS + BEYOND:
            far_all = table_by_words(product_by_words(webs))
            rows = rows_by_order(webs)
            for one, other in some_pairs(rows, 1):
                check_kinds(self, far(webs, rows[one], rows[other]), far_all[one][other])

    def test_products_too_big_to_be_made(self):
        tables = [table_by_words(web) for web in BIG]
        chance = random.Random(2)
        for _ in range(40):
            one, other = [[chance.randrange(many) for many, _ in BIG] for _ in range(2)]
            awaited = sum(table[a][b] for table, a, b in zip(tables, one, other))
            check_kinds(self, far(BIG, one, other), awaited)

    def test_told(self):
        check_kinds(self, far([], [], []), 0)
        check_kinds(self, far([path(40)] * 12, [0] * 12, [39] * 12), 468)
        check_kinds(self, far([path(3), bare(2)], [0, 1], [2, 1]), 2)
        check_kinds(self, far([path(3), bare(2)], [0, 1], [2, 0]), None)
        check_kinds(self, far([bare(2), path(3)], [0, 1], [1, 1]), None)
        check_kinds(self, far([bare(2), path(3)], [0, 1], [0, 1]), 0)

    def test_refusals(self):
        row_refusals(self, far, 2)

    def test_by_name_and_nothing_changed(self):
        self.assertEqual(far(other=[2], one=[0], webs=[path(3)]), 2)
        check_fresh(self, far, [path(3), ring(4)], [0, 1], [2, 3])


class WaysMany(unittest.TestCase):
    def test_products_by_words(self):
        for webs in LISTS + BEYOND:
            web = product_by_words(webs)
            far_all = table_by_words(web)
            rows = rows_by_order(webs)
            for one, other in some_pairs(rows, 3):
                awaited = ways_by_words(web, far_all, one, other)
                check_kinds(self, ways_many(webs, rows[one], rows[other]), awaited)

    def test_told(self):
        check_kinds(self, ways_many([], [], []), 1)
        check_kinds(self, ways_many([path(3), ring(4)], [1, 2], [1, 2]), 1)
        check_kinds(self, ways_many([bare(2)], [0], [1]), 0)
        check_kinds(self, ways_many([ring(4), bare(2)], [0, 0], [2, 1]), 0)
        check_kinds(self, ways_many([bare(2), ring(4)], [0, 0], [0, 2]), 2)
        check_kinds(self, ways_many([path(2)] * 12, [0] * 12, [1] * 12), math.factorial(12))
        check_kinds(self, ways_many([path(40)] * 2, [0, 0], [39, 39]), math.comb(78, 39))
        # As many of the ways in a ring of four as in any order of its two steps and the path's two.
        check_kinds(self, ways_many([ring(4), path(3)], [0, 0], [2, 2]), 2 * 6)
        many = math.factorial(468) // math.factorial(39) ** 12
        check_kinds(self, ways_many([path(40)] * 12, [0] * 12, [39] * 12), many)

    def test_refusals(self):
        row_refusals(self, ways_many, 2)

    def test_by_name_and_nothing_changed(self):
        self.assertEqual(ways_many(other=[2], one=[0], webs=[ring(4)]), 2)
        check_fresh(self, ways_many, [path(3), ring(4)], [0, 1], [2, 3])


class WalksMany(unittest.TestCase):
    def test_products_by_words(self):
        for webs in LISTS + BEYOND:
            web = product_by_words(webs)
            rows = rows_by_order(webs)
            for one, other in some_pairs(rows, 4)[::5]:
                for steps in (0, 1, 2, 3, 4, 7):
                    awaited = walks_by_words(web, one, other, steps)
                    check_kinds(self, walks_many(webs, rows[one], rows[other], steps), awaited)

    def test_thirty_steps(self):
        for webs in ([LADDER], [path(3), path(2)], [SQUARE, path(3)], [ring(3), bare(2)], [full(4), petersen()]):
            web = product_by_words(webs)
            rows = rows_by_order(webs)
            for one, other in [(0, 0), (0, 1), (2, 1), (len(rows) - 1, 0)]:
                awaited = walks_by_words(web, one, other, 30)
                check_kinds(self, walks_many(webs, rows[one], rows[other], 30), awaited)

    def test_one_step_where_they_are_left_out(self):
        for webs in LISTS:
            rows = rows_by_order(webs)
            web = product_by_words(webs)
            for one, other in some_pairs(rows, 5):
                awaited = int((min(one, other), max(one, other)) in web[1])
                check_kinds(self, walks_many(webs, rows[one], rows[other]), awaited)

    def test_told(self):
        check_kinds(self, walks_many([], [], [], 0), 1)
        check_kinds(self, walks_many([], [], []), 0)
        check_kinds(self, walks_many([], [], [], 30), 0)
        check_kinds(self, walks_many([bare(1)] * 12, [0] * 12, [0] * 12, 0), 1)
        check_kinds(self, walks_many([path(2)], [0], [0], 30), 1)
        check_kinds(self, walks_many([path(2)], [0], [1], 30), 0)
        check_kinds(self, walks_many([path(2)], [0], [0], 0), 1)
        check_kinds(self, walks_many([path(2)], [0], [1], 0), 0)
        check_kinds(self, walks_many([path(2)] * 2, [0, 0], [0, 0], 30), 2 ** 29)
        # Of full(16) twelve times: by the eigenvalues 16 j - 12 of their sum.
        powers = [math.comb(12, j) * 15 ** (12 - j) * (16 * j - 12) ** 30 for j in range(13)]
        check_kinds(self, walks_many([full(16)] * 12, [3] * 12, [3] * 12, 30), sum(powers) // 16 ** 12)

    def test_somewhat_beyond_nothing_is_refused(self):
        check_kinds(self, walks_many([path(2)], [0], [1], 31), 1)

    def test_refusals(self):
        row_refusals(self, walks_many, 2)
        row_refusals(self, lambda webs, one, other: walks_many(webs, one, other, 30), 2)

    def test_by_name_and_nothing_changed(self):
        self.assertEqual(walks_many(steps=2, other=[2], one=[0], webs=[ring(4)]), 2)
        self.assertEqual(walks_many(other=[3], one=[0], webs=[ring(4)]), 1)
        check_fresh(self, walks_many, [path(3), ring(4)], [0, 1], [2, 3], 5)


class ByDistance(unittest.TestCase):
    def test_products_by_words(self):
        for webs in LISTS + BEYOND:
            far_all = table_by_words(product_by_words(webs))
            for number, row in list(enumerate(rows_by_order(webs)))[::7]:
                reached = [steps for steps in far_all[number] if steps is not None]
                awaited = [reached.count(steps) for steps in range(max(reached) + 1)]
                check_kinds(self, by_distance(webs, row), awaited)

    def test_told(self):
        check_kinds(self, by_distance([], []), [1])
        check_kinds(self, by_distance([bare(1)] * 12, [0] * 12), [1])
        check_kinds(self, by_distance([bare(40)] * 12, [7] * 12), [1])
        check_kinds(self, by_distance([path(2)] * 12, [1] * 12), [math.comb(12, k) for k in range(13)])
        check_kinds(self, by_distance([full(16)] * 12, [1] * 12), [math.comb(12, k) * 15 ** k for k in range(13)])
        check_kinds(self, by_distance([path(3), (3, [(0, 2)])], [0, 0]), [1, 2, 2, 1])
        check_kinds(self, by_distance([path(3), (3, [(0, 2)])], [1, 1]), [1, 2])

    def test_refusals(self):
        row_refusals(self, by_distance, 1)

    def test_by_name_and_fresh(self):
        self.assertEqual(by_distance(row=[0], webs=[path(3)]), [1, 1, 1])
        for webs, row in ([], []), ([path(3), ring(4)], [0, 1]), ([bare(2)], [1]):
            check_fresh(self, by_distance, webs, row)


class Widest(unittest.TestCase):
    def test_products_by_words(self):
        for webs in LISTS + BEYOND:
            found = [steps for row in table_by_words(product_by_words(webs)) for steps in row]
            check_kinds(self, widest(webs), None if None in found else max(found))

    def test_told(self):
        check_kinds(self, widest([]), 0)
        check_kinds(self, widest([bare(1)] * 12), 0)
        check_kinds(self, widest([path(40)] * 12), 468)
        check_kinds(self, widest([path(40)] * 11 + [bare(2)]), None)
        check_kinds(self, widest([bare(2)] + [path(40)] * 11), None)
        check_kinds(self, widest([ring(6), star(5), petersen()]), 7)
        # No place is as far from the others as those that come late.
        check_kinds(self, widest([(6, [(0, 1), (0, 2), (1, 3), (2, 4), (4, 5)])]), 5)

    def test_refusals(self):
        check_no_webs(self, widest)

    def test_by_name_and_nothing_changed(self):
        self.assertEqual(widest(webs=[path(3)]), 2)
        check_fresh(self, widest, [path(3), ring(4)])


class Rings(unittest.TestCase):
    def test_products_by_words(self):
        for webs in LISTS:
            web = product_by_words(webs)
            if web[0] <= 24:
                check_kinds(self, threes(webs), rings_by_words(web, 3))
            if web[0] <= 16:
                check_kinds(self, fours(webs), rings_by_words(web, 4))

    def test_products_of_more_rows(self):
        for webs in LISTS + BEYOND + [[full(16)], [many_ties()]]:
            # Rings of three by traces; of four by those that start at each place, go anywhere and come back.
            web = product_by_words(webs)
            near = near_sets(web)
            three = sum(len(near[a] & near[b]) for a, b in web[1]) // 3
            pairs = itertools.combinations(range(web[0]), 2)
            four = sum(math.comb(len(near[a] & near[b]), 2) for a, b in pairs) // 2
            check_kinds(self, (threes(webs), fours(webs)), (three, four))

    def test_told(self):
        check_kinds(self, (threes([]), fours([])), (0, 0))
        check_kinds(self, (threes([bare(1)] * 12), fours([bare(1)] * 12)), (0, 0))
        check_kinds(self, (threes([full(4)]), fours([full(4)])), (4, 3))
        check_kinds(self, (threes([ring(3)] * 2), fours([ring(3)] * 2)), (6, 9))
        check_kinds(self, fours([path(2)] * 12), math.comb(12, 2) * 2 ** 10)
        check_kinds(self, threes([full(16)] * 12), 12 * math.comb(16, 3) * 16 ** 11)
        many = 12 * 3 * math.comb(16, 4) * 16 ** 11 + math.comb(12, 2) * 120 ** 2 * 16 ** 10
        check_kinds(self, fours([full(16)] * 12), many)
        check_kinds(self, (threes([IN_PIECES, bare(2)]), fours([IN_PIECES, path(2)])), (2, 5))

    def test_refusals(self):
        check_no_webs(self, threes)
        check_no_webs(self, fours)

    def test_by_name_and_nothing_changed(self):
        self.assertEqual((threes(webs=[ring(3)]), fours(webs=[ring(4)])), (1, 1))
        check_fresh(self, threes, [ring(3), ring(4)])
        check_fresh(self, fours, [ring(3), ring(4)])


if __name__ == "__main__":
    unittest.main()
