import itertools
import random
import unittest

from samples import (
    ODD, SQUARE, Spiteful, bare, check_apart, check_fresh, check_kinds, check_no_web, full, is_naming_by_words,
    many_ties, namings_by_words, path, petersen, product_by_words, ring, rows_by_order, star,
)
from test_taken import called_again
from webtimes.errors import Apart, NoNaming, NoWeb, TooBig
from webtimes.raised import lowered


def power_case(primes, times, seed):
    """Two webs and a naming between their powers that exchanges like factors at random and turns them."""
    chance = random.Random(seed)
    one, one_places = called_again(primes, chance.random())
    other, other_places = called_again(primes, chance.random())
    copies = primes * times
    order = list(range(len(copies)))
    for web in copies:
        like = [k for k, prime in enumerate(copies) if prime == web]
        for k, to in zip(like, chance.sample(like, len(like))):
            order[k] = to
    keep = [chance.choice(namings_by_words(web, web)) if web[0] <= 6 else list(range(web[0])) for web in copies]

    def number(places, row):
        told = 0
        for at in range(times):
            told = told * one[0] + places[tuple(row[at * len(primes):(at + 1) * len(primes)])]
        return told

    naming = [None] * one[0] ** times
    for row in rows_by_order(copies):
        led = [None] * len(copies)
        for k, place in enumerate(row):
            led[order[k]] = keep[k][place]
        naming[number(one_places, row)] = number(other_places, led)
    return one, other, naming, times


RAISED = [
    ([path(2)], 5), ([path(2)], 2), ([path(2)], 3), ([path(2)], 1), ([path(2), path(2)], 2), ([path(2), path(3)], 2),
    ([path(2), ring(3)], 2), ([path(3)], 3), ([ring(3)], 3), ([path(3)], 2), ([path(4)], 2), ([star(4)], 2),
    ([path(6)], 2), ([full(5)], 2), ([ring(6)], 2), ([], 1), ([], 2), ([], 12), ([petersen()], 1), ([many_ties()], 1),
    ([path(2)] * 5, 1), ([path(3), path(2), path(3), path(2)], 1), ([(4, [(0, 1), (0, 2), (1, 2), (2, 3)])], 2),
    ([ring(5)], 2),
]


class Lowered(unittest.TestCase):
    def check(self, one, other, naming, times):
        left, right = product_by_words([one] * times), product_by_words([other] * times)
        self.assertTrue(is_naming_by_words(left, right, naming))
        told = lowered(one, other, naming, times)
        self.assertIsInstance(told, list)
        self.assertTrue(is_naming_by_words(one, other, told))
        check_kinds(self, sorted(told), list(range(one[0])))
        if times == 2:
            check_kinds(self, lowered(one, other, naming), told)

    def test_factors_exchanged_and_turned(self):
        for primes, times in RAISED:
            for seed in range(8 if len(primes) * times < 5 else 4):
                self.check(*power_case(primes, times, seed))

    def test_all_namings_of_small_powers(self):
        for one, other, times in [(path(2), path(2), 2), (path(2), path(2), 3), (bare(1), bare(1), 2)]:
            left, right = product_by_words([one] * times), product_by_words([other] * times)
            for naming in namings_by_words(left, right):
                self.check(one, other, naming, times)

    def test_both_copies_of_each_of_two_factors(self):
        # All ways in which the four ties of a square's square lead to one another, turned or not.
        for order in itertools.permutations(range(4)):
            naming = []
            for row in rows_by_order([path(2)] * 4):
                led = [None] * 4
                for k, place in enumerate(row):
                    led[order[k]] = 1 - place if k % 2 else place
                naming.append(sum(place << (3 - k) for k, place in enumerate(led)))
            self.check(SQUARE, SQUARE, naming, 2)

    def test_by_one_it_is_the_naming_itself(self):
        for primes in ([path(3)], [path(2)] * 3, [petersen()], [], [ring(3), path(3)]):
            one, other, naming, _ = power_case(primes, 1, 9)
            check_kinds(self, lowered(one, other, naming, 1), naming)

    def test_told(self):
        check_kinds(self, lowered(bare(1), bare(1), [0]), [0])
        check_kinds(self, lowered(bare(1), bare(1), [0], 12), [0])
        check_kinds(self, lowered(bare(1), bare(1), [0], 13), [0])
        naming = [3 * a + b for a in (1, 0, 2) for b in (2, 0, 1)]
        self.assertIn(lowered(path(3), star(3), naming), ([1, 0, 2], [2, 0, 1]))

    def test_no_naming(self):
        same = list(range(4))
        things = [
            [], [0, 1], same + [4], [0, 0, 1, 2], [0, 1, 3, 2], [0, 3, 1, 2], tuple(same), [False, True, 2, 3],
            [0.0, 1, 2, 3], [0, 1, 2, Spiteful()], [0, 1, 2, -1], [same], ([0, 1], [[0, 1], [0, 1]]),
        ]
        for thing in ODD + things:
            with self.assertRaises(NoNaming):
                lowered(path(2), path(2), thing)
            with self.assertRaises(NoNaming):
                lowered(SQUARE, SQUARE, thing, 1)
        for one, other in [(path(3), ring(3)), (path(3), path(2)), (path(2), path(3)), (path(2), bare(1))]:
            for many in (4, 9):
                with self.assertRaises(NoNaming):
                    lowered(one, other, list(range(many)))
        # A naming of the power by another number.
        for times in (1, 3):
            with self.assertRaises(NoNaming):
                lowered(path(2), path(2), same, times)

    def test_too_big(self):
        # 49 places; 36 places and 2 * 6 * 11 ties; 64 places.
        for web, times in [(path(7), 2), (path(2), 6), (path(4), 3), (path(2), 12)]:
            with self.assertRaises(TooBig):
                lowered(web, web, list(range(web[0] ** times)), times)
        left_out = [(0, 1), (2, 3), (4, 5)]
        eleven = (6, [pair for pair in itertools.combinations(range(6), 2) if pair not in left_out][:11])
        with self.assertRaises(TooBig):
            lowered(eleven, eleven, list(range(36)))
        with self.assertRaises(TooBig):
            lowered(path(2), path(7), None)
        with self.assertRaises(TooBig):
            lowered(path(7), path(2), None)
        with self.assertRaises(TooBig):
            lowered(path(7), path(7), Spiteful())
        # Just 120 ties.
        ten = (6, eleven[1][:10])
        self.check(ten, ten, list(range(36)), 2)
        self.check(path(40), path(40), list(range(40)), 1)
        self.check(many_ties(), many_ties(), list(range(40)), 1)

    def test_refusals(self):
        check_no_web(self, lambda thing: lowered(thing, (), None))
        check_no_web(self, lambda thing: lowered(bare(2), thing, None))
        check_apart(self, lambda web: lowered(web, full(16), None))
        check_apart(self, lambda web: lowered(full(16), web, None, 12))
        with self.assertRaises(Apart):
            lowered(bare(2), bare(2), [0, 1, 2, 3])
        with self.assertRaises(NoWeb):
            lowered(bare(40), None, None, 3)

    def test_by_name_and_fresh(self):
        self.assertEqual(lowered(times=1, naming=[1, 0, 2], other=star(3), one=path(3)), [1, 0, 2])
        naming = [3 * a + b for a in (1, 0, 2) for b in (1, 0, 2)]
        self.assertEqual(lowered(naming=naming, other=star(3), one=path(3)), [1, 0, 2])
        for primes, times in [([path(2)], 2), ([path(3)], 1), ([], 3), ([path(2)], 3)]:
            check_fresh(self, lowered, *power_case(primes, times, 9))


if __name__ == "__main__":
    unittest.main()
