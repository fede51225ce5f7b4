import itertools
import random
import unittest

from samples import (
    ODD, SQUARE, Spiteful, bare, called_anew, check_apart, check_fresh, check_kinds, check_no_web, full,
    is_naming_by_words, many_ties, namings_by_words, path, petersen, product_by_words, ring, rows_by_order, star,
    turned,
)
from webtimes.errors import Apart, NoNaming, NoWeb, TooBig
from webtimes.taken import cancelled


def called_again(webs, seed):
    """A product of the webs with its places called anew, each factor too, and the place of each row."""
    rows = rows_by_order(webs)
    order = called_anew(len(rows), seed)
    return turned(product_by_words(webs), order), {tuple(row): order[at] for at, row in enumerate(rows)}


def mixed_case(ones, thirds, seed):
    """Three webs and a naming between the products that exchanges like factors at random and turns them."""
    chance = random.Random(seed)
    one, one_places = called_again(ones, chance.random())
    other, other_places = called_again(ones, chance.random())
    third, third_places = called_again(thirds, chance.random())
    primes = ones + thirds
    # Like factors are written alike in the lists; each leads to one of them, with a renaming of it.
    order = list(range(len(primes)))
    for web in primes:
        like = [k for k, prime in enumerate(primes) if prime == web]
        for k, to in zip(like, chance.sample(like, len(like))):
            order[k] = to
    keep = [chance.choice(namings_by_words(web, web)) if web[0] <= 6 else list(range(web[0])) for web in primes]
    naming = [None] * (one[0] * third[0])
    for row in rows_by_order(primes):
        led = [None] * len(primes)
        for k, place in enumerate(row):
            led[order[k]] = keep[k][place]
        here = one_places[tuple(row[:len(ones)])] * third[0] + third_places[tuple(row[len(ones):])]
        there = other_places[tuple(led[:len(ones)])] * third[0] + third_places[tuple(led[len(ones):])]
        naming[here] = there
    return one, other, third, naming


MIXED = [
    ([path(2)], [path(2)]), ([path(2)], [path(2)] * 2), ([path(2)], [path(2)] * 4), ([path(2)] * 2, [path(2)] * 2),
    ([path(2)] * 4, [path(2)]), ([path(3)], [path(3)]), ([path(3)], [path(3), path(2)]),
    ([path(3)], [path(3), path(3)]), ([path(2), path(3)], [path(3), path(2)]), ([ring(3)], [path(2), ring(3)]),
    ([ring(3), path(2)], [ring(3)]), ([star(4)], [star(4), path(2)]), ([path(4)], [star(4)]), ([ring(5)], [ring(5)]),
    ([full(4)], [petersen()]), ([], [path(2), path(3)]), ([path(2), path(3)], []), ([], []), ([petersen()], [path(3)]),
    ([path(6)], [path(6)]), ([(4, [(0, 1), (0, 2), (1, 2), (2, 3)])], [(4, [(0, 1), (0, 2), (1, 2), (2, 3)])]),
    ([many_ties()], []), ([], [many_ties()]),
]


class Cancelled(unittest.TestCase):
    def check(self, one, other, third, naming):
        left, right = product_by_words([one, third]), product_by_words([other, third])
        self.assertTrue(is_naming_by_words(left, right, naming))
        told = cancelled(one, other, third, naming)
        self.assertIsInstance(told, list)
        self.assertTrue(is_naming_by_words(one, other, told))
        check_kinds(self, sorted(told), list(range(one[0])))

    def test_factors_exchanged_and_turned(self):
        for ones, thirds in MIXED:
            for seed in range(6):
                self.check(*mixed_case(ones, thirds, seed))

    def test_all_namings_of_small_products(self):
        trios = [
            (path(2), path(2), path(2)), (path(2), path(2), SQUARE), (SQUARE, ring(4), path(2)),
            (path(2), path(2), path(3)), (path(3), star(3), path(2)), (ring(3), ring(3), path(2)),
            (bare(1), bare(1), SQUARE), (SQUARE, ring(4), bare(1)),
        ]
        for one, other, third in trios:
            left, right = product_by_words([one, third]), product_by_words([other, third])
            for naming in namings_by_words(left, right):
                self.check(one, other, third, naming)

    def test_told(self):
        check_kinds(self, cancelled(bare(1), bare(1), bare(1), [0]), [0])
        check_kinds(self, cancelled(bare(1), bare(1), path(3), [2, 1, 0]), [0])
        check_kinds(self, cancelled(path(3), star(3), bare(1), [1, 0, 2]), [1, 0, 2])
        # There is one naming alone, from 0 (1 2) 3 to 3 (0 1) 2, but for what exchanges 1 and 2.
        tailed = (4, [(0, 1), (0, 2), (1, 2), (2, 3)])
        other = turned(tailed, [2, 0, 1, 3])
        naming = [2 * k + at for k in (2, 0, 1, 3) for at in (1, 0)]
        self.assertIn(cancelled(tailed, other, path(2), naming), ([2, 0, 1, 3], [0, 2, 1, 3]))

    def test_no_naming(self):
        same = list(range(8))
        things = [
            [], [0, 1], same + [8], same[:7], [0, 0] + same[2:], [-1] + same[1:], [False, True] + same[2:], tuple(same),
            [1, 0] + same[2:], [0.0] + same[1:], same[:7] + [Spiteful()], same[:7] + [8], [same], ([0], [[0, 1]]),
        ]
        for thing in ODD + things:
            with self.assertRaises(NoNaming):
                cancelled(path(2), path(2), SQUARE, thing)
            with self.assertRaises(NoNaming):
                cancelled(SQUARE, SQUARE, path(2), thing)
        for one, other in [(path(3), ring(3)), (path(3), path(2)), (path(2), path(3)), (path(2), bare(1))]:
            for many in (2, 4, 6):
                with self.assertRaises(NoNaming):
                    cancelled(one, other, path(2), list(range(many)))

    def test_too_big(self):
        same = list(range(42))
        for third in (path(3), path(2), ring(3)):
            with self.assertRaises(TooBig):
                cancelled(path(21), path(21), third, same)
            with self.assertRaises(TooBig):
                cancelled(path(2), path(21), third, None)
            with self.assertRaises(TooBig):
                cancelled(path(21), path(2), third, None)
        # 30 places, and 15 * 5 + 10 * 6 ties.
        with self.assertRaises(TooBig):
            cancelled(full(6), full(6), full(5), list(range(30)))
        with self.assertRaises(TooBig):
            cancelled(path(6), full(6), full(5), None)
        # Just 40 places, and just 120 ties.
        for one, third in [(path(20), path(2)), (full(4), petersen()), (path(2), path(20)), (ring(5), path(8))]:
            self.check(one, one, third, list(range(one[0] * third[0])))
            with self.assertRaises(NoNaming):
                cancelled(one, one, third, None)

    def test_refusals(self):
        check_no_web(self, lambda thing: cancelled(thing, (), 0, None))
        check_no_web(self, lambda thing: cancelled(bare(2), thing, 0, None))
        check_no_web(self, lambda thing: cancelled(bare(2), full(16), thing, None))
        check_apart(self, lambda web: cancelled(web, full(16), full(16), None))
        check_apart(self, lambda web: cancelled(full(16), web, full(16), None))
        check_apart(self, lambda web: cancelled(full(16), full(16), web, None))
        with self.assertRaises(Apart):
            cancelled(bare(2), bare(2), path(2), [0, 1, 2, 3])
        with self.assertRaises(NoWeb):
            cancelled(bare(40), bare(40), None, None)
        with self.assertRaises(TooBig):
            cancelled(path(40), path(40), path(2), Spiteful())

    def test_by_name_and_fresh(self):
        told = cancelled(naming=[2, 3, 0, 1, 4, 5], third=path(2), other=star(3), one=path(3))
        self.assertIn(told, ([1, 0, 2], [2, 0, 1]))
        for ones, thirds in [([path(2)], [path(2)] * 2), ([], [path(2)]), ([path(3)], [])]:
            check_fresh(self, cancelled, *mixed_case(ones, thirds, 7))

    def test_chains_through_the_third(self):
        # One's tie leads to the first, that to the second, that to the third, that to the other's tie.
        for order in itertools.permutations(range(4)):
            naming = []
            for row in rows_by_order([path(2)] * 4):
                led = [None] * 4
                for k, place in enumerate(row):
                    led[order[k]] = 1 - place if k == 2 else place
                naming.append(sum(place << (3 - k) for k, place in enumerate(led)))
            self.check(path(2), path(2), product_by_words([path(2)] * 3), naming)


if __name__ == "__main__":
    unittest.main()
