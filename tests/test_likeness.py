import unittest

from samples import (
    HANGING, PRIMES, bare, check_apart, check_fresh, check_kinds, check_no_web, full, is_naming_by_words, many_ties,
    namings_by_words, path, petersen, product_by_words, ring, star, turned, turned_factoring,
)
from test_factors import LISTS, factored_by_words
from webtimes.likeness import like_factors

TAILED = PRIMES[-1]
# Products with like factors that are called otherwise, and unlike ones of as many places and ties.
MORE = [
    [path(3), star(3)], [path(3), star(3), turned(path(3), [1, 2, 0])], [path(4), star(4)],
    [path(6), turned(path(6), [3, 0, 5, 1, 4, 2])], [TAILED, turned(TAILED, [3, 1, 0, 2])], [ring(6), ring(6)],
    [ring(5), turned(ring(5), [0, 2, 4, 1, 3])], [full(3), path(3)], [path(3), ring(3), path(3)],
    [path(2), path(3), path(2), star(3)], [TAILED, ring(4)], [path(7), ring(5)], [path(8), path(5)], [path(5), star(5)],
    [(5, [(0, 1), (0, 2), (1, 2), (2, 3), (3, 4)]), ring(5)], [ring(3), path(2), ring(3), path(2)],
]


def like_by_words(web):
    """For each told factor the numbers of those alike to it."""
    factors = factored_by_words(web)[0]
    # Factors of more than six places are like no other one of the web.
    return [
        [k for k in range(len(factors)) if k == number or (
            max(factors[k][0], factors[number][0]) <= 6 and namings_by_words(factors[number], factors[k]))]
        for number in range(len(factors))
    ]


class LikeFactors(unittest.TestCase):
    def check(self, web):
        told = like_factors(web)
        factors = factored_by_words(web)[0]
        numbers = [[number for number, _ in like] for like in told]
        awaited = []
        for like in like_by_words(web):
            awaited += [like] if like not in awaited else []
        check_kinds(self, numbers, awaited)
        for like in told:
            self.assertIsInstance(like, list)
            first = factors[like[0][0]]
            for pair in like:
                self.assertIsInstance(pair, tuple)
                number, naming = pair
                self.assertIsInstance(naming, list)
                self.assertTrue(is_naming_by_words(first, factors[number], naming))
                check_kinds(self, sorted(naming), list(range(first[0])))

    def test_products(self):
        for webs in LISTS + MORE:
            for seed in (1, 2, 3):
                self.check(turned_factoring(webs, seed)[0])

    def test_primes_and_other_webs(self):
        for web in HANGING + PRIMES:
            self.check(web)

    def test_told(self):
        check_kinds(self, like_factors(bare(1)), [])
        check_kinds(self, [[number for number, _ in like] for like in like_factors(ring(4))], [[0, 1]])
        for web in (many_ties(), petersen(), path(40), full(16)):
            told = like_factors(web)
            self.assertEqual([[number for number, _ in like] for like in told], [[0]])
        # The classes' first ties are 0-1 of the tie, 0-2 and 0-6 of both paths.
        told = like_factors(product_by_words([path(3), path(3), path(2)]))
        self.assertEqual([[number for number, _ in like] for like in told], [[0], [1, 2]])

    def test_refusals(self):
        check_no_web(self, like_factors)
        check_apart(self, like_factors)

    def test_by_name_and_fresh(self):
        self.assertEqual([[number for number, _ in like] for like in like_factors(web=path(2))], [[0]])
        for webs in ([], [path(3)], [path(3), star(3)], [path(2)] * 5, [petersen(), path(2)]):
            check_fresh(self, like_factors, turned_factoring(webs, 4)[0])


if __name__ == "__main__":
    unittest.main()
