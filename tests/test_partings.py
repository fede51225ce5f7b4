import unittest

from samples import (
    HANGING, LADDER, SQUARE, bare, check_apart, check_fresh, check_kinds, check_no_web, from_pairs, full, many_ties,
    path, petersen, ring, turned_factoring,
)
from test_factors import factored_by_words
from test_layers import groupings
from webtimes.classes import classes
from webtimes.factorings import lets_factoring
from webtimes.partings import grouped

# Lists of webs of two or more places, prime or not.
LISTS = [
    [], [path(2)], [SQUARE], [LADDER], [path(2), path(2)], [SQUARE, path(3)], [LADDER, ring(3)], [SQUARE, SQUARE],
    [path(2), SQUARE, path(2)], [LADDER, LADDER], [SQUARE, LADDER], [petersen(), SQUARE], [full(4), path(3), path(2)],
    [ring(5), path(8)], [many_ties()], [path(2)] * 5, [path(3), path(3), path(3)], [full(6), full(4)],
]


def grouped_by_words(web, factoring):
    webs, rows = factoring
    lists = classes(web)
    told_rows = factored_by_words(web)[1]
    groups = []
    for at, (many, _) in enumerate(webs):
        numbers = []
        for number, ties in enumerate(lists):
            directions = {k for one, other in ties for k in range(len(webs)) if rows[one][k] != rows[other][k]}
            numbers += [number] if directions == {at} else []
        own_rows = []
        for place in range(many):
            row = [place if k == at else rows[0][k] for k in range(len(webs))]
            own_rows.append([told_rows[rows.index(row)][number] for number in numbers])
        groups.append((numbers, own_rows))
    return groups


class Grouped(unittest.TestCase):
    def check(self, web, factoring):
        self.assertIs(lets_factoring(web, factoring), True)
        told = grouped(web, factoring)
        check_kinds(self, told, grouped_by_words(web, factoring))
        factors = factored_by_words(web)[0]
        for factor, (numbers, rows) in zip(factoring[0], told):
            self.assertIs(lets_factoring(factor, ([factors[number] for number in numbers], rows)), True)
        self.assertEqual(sorted(sum([numbers for numbers, _ in told], [])), list(range(len(factors))))

    def test_products_of_any_webs(self):
        for webs in LISTS:
            for seed in (1, 2, 3):
                self.check(*turned_factoring(webs, seed))

    def test_all_groupings(self):
        primes = [path(2), full(3), path(2), path(3)]
        for seed, groups in enumerate(groupings(len(primes))):
            lists = [turned_factoring([primes[k] for k in group], seed)[0] for group in groups]
            self.check(*turned_factoring(lists, seed))

    def test_of_the_told_factoring(self):
        for web in [web for web in HANGING] + [turned_factoring(webs, 4)[0] for webs in LISTS]:
            factors, rows = factored_by_words(web)
            told = grouped(web, (factors, rows))
            awaited = [([k], [[place] for place in range(many)]) for k, (many, _) in enumerate(factors)]
            check_kinds(self, told, awaited)

    def test_told(self):
        check_kinds(self, grouped(bare(1), ([], [[]])), [])
        rows = [[0], [1], [2], [3], [4], [5]]
        awaited = [([0, 1], [[0, 0], [1, 0], [0, 1], [1, 1], [0, 2], [1, 2]])]
        check_kinds(self, grouped(LADDER, ([LADDER], rows)), awaited)
        # The path ahead of the tie, and place 0 not in the first row.
        rows = [[2, 1], [2, 0], [1, 1], [1, 0], [0, 1], [0, 0]]
        awaited = [([1], [[2], [1], [0]]), ([0], [[1], [0]])]
        check_kinds(self, grouped(LADDER, ([path(3), path(2)], rows)), awaited)
        # Place 0 has 1, not 0, in the direction that stands still.
        cube = from_pairs(8, [(k, k + step) for step in (1, 2, 4) for k in range(8) if not k & step])
        rows = [[3 - (k & 3), 1 - (k >> 2)] for k in range(8)]
        awaited = [([0, 1], [[1, 1], [0, 1], [1, 0], [0, 0]]), ([2], [[1], [0]])]
        check_kinds(self, grouped(cube, ([SQUARE, path(2)], rows)), awaited)

    def test_refusals(self):
        check_no_web(self, lambda thing: grouped(thing, None))
        check_apart(self, lambda web: grouped(web, ([web], [[place] for place in range(web[0])])))

    def test_by_name_and_fresh(self):
        self.assertEqual(grouped(factoring=([path(2)], [[1], [0]]), web=path(2)), [([0], [[1], [0]])])
        for webs in ([], [path(2)], [SQUARE, path(3)], [path(2), SQUARE, path(2)], [SQUARE, SQUARE]):
            check_fresh(self, grouped, *turned_factoring(webs, 5))


if __name__ == "__main__":
    unittest.main()
