import itertools
import math
import random
import unittest

from samples import (
    ASUNDER, LADDER, PRIMES, SQUARE, bare, called_anew, check_fresh, check_kinds, check_no_web, check_no_webs, full,
    many_ties, namings_by_search, namings_by_words, path, petersen, product_by_words, ring, star, turned,
    turned_factoring,
)
from test_factors import factored_by_words
from test_likeness import TAILED
from webtimes.errors import Apart, NoWebs, TooBig
from webtimes.keeping import alike_products, kept_many, like_groups, orbits, primes_of
from webtimes.ways import hangs_together

# Lists of webs whose primes have at most seven places; the product of most is too big to be made.
SMALL = [
    [], [bare(1)], [bare(1)] * 12, [path(2)], [bare(1), path(3), bare(1)], [SQUARE, path(2)], [LADDER, LADDER],
    [ring(7)], [path(3), turned(path(3), [1, 2, 0]), ring(3)], [TAILED, star(4), turned(TAILED, [2, 3, 0, 1]), path(4)],
    [product_by_words([path(2)] * 5)] * 12, [full(7)] * 12, [path(7), ring(7), star(7), full(7), path(7)],
    [product_by_words([path(3), path(2), path(3), path(2)]), SQUARE, path(3)],
    [ring(5), turned(ring(5), [0, 2, 4, 1, 3])],
    [product_by_words([ring(5), path(7)]), product_by_words([path(7), ring(5)]), LADDER, bare(1), ring(5)],
    [full(6), full(5), full(4), full(3), path(2), bare(1), full(6)], [path(6), star(6), ring(6)] * 4,
]
# Lists with primes of more than seven places.
LARGE = [
    [path(8)], [petersen()], [path(2), petersen()], [product_by_words([path(8), path(2)])], [many_ties()],
    [full(16)] * 12, [bare(1), path(40)], [SQUARE, path(20), path(3)], [ring(7), ring(8)], [star(8)],
]


def primes_by_words(webs):
    return [prime for web in webs for prime in factored_by_words(web)[0]]


def are_alike(one, other):
    return any(True for _ in namings_by_search(one, other))


def count_by_search(web):
    return sum(1 for _ in namings_by_search(web, web))


def groups_by_words(primes):
    groups = []
    for number, prime in enumerate(primes):
        for group in groups:
            if are_alike(primes[group[0]], prime):
                group.append(number)
                break
        else:
            groups.append([number])
    return groups


def check_hanging_webs(case, function):
    """NoWebs ahead of all else, then Apart, whatever else is wrong."""
    check_no_webs(case, function)
    for web in ASUNDER:
        for webs in ([web], [path(40), web], [web, path(40)], [path(2)] * 11 + [web]):
            with case.assertRaises(Apart):
                function(webs)
        with case.assertRaises(NoWebs) as held:
            function([web, path(8), None])
        case.assertEqual(held.exception.number, 2)


class PrimesOf(unittest.TestCase):
    def test_all_lists(self):
        for webs in SMALL + LARGE:
            check_kinds(self, primes_of(webs), primes_by_words(webs))
            called = [turned(web, called_anew(web[0], 1)) for web in webs]
            check_kinds(self, primes_of(called), primes_by_words(called))

    def test_told(self):
        check_kinds(self, primes_of([]), [])
        check_kinds(self, primes_of([bare(1)]), [])
        check_kinds(self, primes_of([LADDER, bare(1), ring(4)]), [path(2), path(3), path(2), path(2)])
        check_kinds(self, primes_of([product_by_words([path(2)] * 5)] * 12), [path(2)] * 60)

    def test_refusals(self):
        check_hanging_webs(self, primes_of)

    def test_by_name_and_fresh(self):
        self.assertEqual(primes_of(webs=[path(2)]), [path(2)])
        for webs in ([], [bare(1)], [path(2)], [SQUARE, LADDER], [petersen()]):
            check_fresh(self, primes_of, webs)
        twice = path(3)
        told = primes_of([twice, twice])
        told[0][1].append("spoiled")
        self.assertEqual((told[1], twice), (path(3), path(3)))


class LikeGroups(unittest.TestCase):
    def test_all_lists(self):
        for webs in SMALL:
            for seed in (1, 2):
                called = [turned(web, called_anew(web[0], seed)) for web in webs]
                check_kinds(self, like_groups(called), groups_by_words(primes_by_words(called)))

    def test_told(self):
        check_kinds(self, like_groups([]), [])
        check_kinds(self, like_groups([bare(1)] * 12), [])
        check_kinds(self, like_groups([LADDER, bare(1), SQUARE, star(3)]), [[0, 2, 3], [1, 4]])
        check_kinds(self, like_groups([path(7), ring(7), path(7)]), [[0, 2], [1]])

    def test_too_big(self):
        check_too_big(self, like_groups)

    def test_refusals(self):
        check_hanging_webs(self, like_groups)

    def test_by_name_and_fresh(self):
        self.assertEqual(like_groups(webs=[path(2), path(3)]), [[0], [1]])
        for webs in ([], [path(2)], [SQUARE, LADDER]):
            check_fresh(self, like_groups, webs)


def check_too_big(case, function):
    for webs in LARGE:
        with case.assertRaises(TooBig):
            function(webs)
        with case.assertRaises(TooBig):
            function([turned(web, called_anew(web[0], 2)) for web in webs])


class KeptMany(unittest.TestCase):
    def test_products_that_are_made(self):
        lists = [
            [], [bare(1)], [path(2)], [path(2)] * 2, [path(2)] * 3, [path(2)] * 4, [path(3), path(2)], [path(3)] * 2,
            [path(3)] * 3, [ring(3)] * 2, [ring(3), path(3)], [full(4), path(2)], [star(4), path(2)],
            [star(4), star(4)], [path(4), star(4)], [SQUARE, SQUARE], [LADDER, path(2)], [TAILED, TAILED],
            [TAILED, path(3), path(2)], [ring(5), path(2)], [ring(5), turned(ring(5), [0, 2, 4, 1, 3])], [ring(7)],
            [path(7), ring(5)], [full(5), path(3)], [bare(1), ring(4), bare(1), path(3)],
            [path(6), turned(path(6), [3, 0, 5, 1, 4, 2])], [star(7)], [ring(6), ring(6)],
        ]
        for webs in lists:
            web = product_by_words(webs)
            check_kinds(self, kept_many(webs), count_by_search(web))
            check_kinds(self, kept_many([turned(web, called_anew(web[0], 3))]), count_by_search(web))

    def test_small_webs_by_all_orders(self):
        for many in range(1, 5):
            pairs = list(itertools.combinations(range(many), 2))
            for size in range(len(pairs) + 1):
                for ties in itertools.combinations(pairs, size):
                    web = (many, list(ties))
                    if hangs_together(web):
                        self.assertEqual(kept_many([web]), len(namings_by_words(web, web)))

    def test_products_too_big_to_be_made(self):
        for webs in SMALL:
            primes = primes_by_words(webs)
            many = 1
            for group in groups_by_words(primes):
                many *= count_by_search(primes[group[0]]) ** len(group) * math.factorial(len(group))
            check_kinds(self, kept_many(webs), many)

    def test_told(self):
        check_kinds(self, kept_many([]), 1)
        check_kinds(self, kept_many([bare(1)] * 12), 1)
        check_kinds(self, kept_many([full(7)]), 5040)
        check_kinds(self, kept_many([full(7)] * 12), 5040 ** 12 * math.factorial(12))
        check_kinds(self, kept_many([product_by_words([path(2)] * 5)] * 12), 2 ** 60 * math.factorial(60))
        check_kinds(self, kept_many([ring(7), path(7), path(7)]), 14 * 2 * 2 * 2)

    def test_too_big(self):
        check_too_big(self, kept_many)

    def test_refusals(self):
        check_hanging_webs(self, kept_many)

    def test_by_name_and_nothing_changed(self):
        self.assertEqual(kept_many(webs=[path(2)]), 2)
        check_fresh(self, kept_many, [SQUARE, LADDER])


class AlikeProducts(unittest.TestCase):
    def test_the_same_primes_otherwise_put_together(self):
        primes = [path(2), path(3), path(2), ring(3), path(2), star(4), path(3)]
        chance = random.Random(1)
        for _ in range(40):
            lists = []
            for _ in range(2):
                order = chance.sample(primes, len(primes))
                cut = chance.choice([1, 2, 3])
                groups = [order[:cut], order[cut:cut + 2], order[cut + 2:cut + 3], order[cut + 3:]]
                webs = [turned_factoring(group, chance.random())[0] for group in groups if product_fits(group)]
                webs += [web for group in groups if not product_fits(group) for web in group]
                lists.append(webs + [bare(1)] * chance.choice([0, 1]))
            self.assertIs(alike_products(*lists), True)
            self.assertIs(alike_products(lists[0], lists[1] + [path(2)]), False)
            self.assertIs(alike_products(lists[0] + [path(2)], lists[1]), False)
            self.assertIs(alike_products(lists[0] + [path(3)], lists[1] + [ring(3)]), False)
            self.assertIs(alike_products(lists[0] + [path(3)], lists[1] + [star(3)]), True)

    def test_by_products_that_are_made(self):
        kinds = [bare(1), path(2), path(3), star(3), ring(3), SQUARE, LADDER, TAILED]
        lists = [[]] + [[web] for web in kinds] + [list(pair) for pair in itertools.product(kinds, kinds)]
        lists = [webs for webs in lists if product_by_words(webs)[0] <= 18]
        made = [product_by_words(webs) for webs in lists]
        for one, other in itertools.product(range(len(lists)), range(len(lists))):
            if made[one][0] == made[other][0] or one % 7 == 0:
                self.assertIs(alike_products(lists[one], lists[other]), are_alike(made[one], made[other]))

    def test_by_groups(self):
        called = [[turned(web, called_anew(web[0], 4)) for web in webs][::-1] for webs in SMALL]
        for ones, others in list(itertools.product(SMALL, SMALL))[::7] + list(zip(SMALL, called)):
            own = primes_by_words(ones)
            primes = own + primes_by_words(others)
            awaited = all(2 * sum(k < len(own) for k in group) == len(group) for group in groups_by_words(primes))
            self.assertIs(alike_products(ones, others), awaited)

    def test_told(self):
        self.assertIs(alike_products([], []), True)
        self.assertIs(alike_products([], [bare(1)] * 12), True)
        self.assertIs(alike_products([], [path(2)]), False)
        self.assertIs(alike_products([path(2)], []), False)
        self.assertIs(alike_products([path(2)], [path(2), path(2)]), False)
        self.assertIs(alike_products([path(2)] * 3, [path(2)]), False)
        self.assertIs(alike_products([full(7)] * 12, [full(7)] * 12), True)
        self.assertIs(alike_products([full(7)] * 12, [full(7)] * 11 + [ring(7)]), False)

    def test_too_big(self):
        check_too_big(self, lambda webs: alike_products(webs, webs))
        check_too_big(self, lambda webs: alike_products(webs, []))
        check_too_big(self, lambda webs: alike_products([], webs))
        check_too_big(self, lambda webs: alike_products([path(2)], webs))

    def test_refusals(self):
        check_no_webs(self, lambda thing: alike_products(thing, None))
        check_no_webs(self, lambda thing: alike_products([bare(2)], thing))
        check_no_webs(self, lambda thing: alike_products([path(8)], thing))
        for web in ASUNDER:
            for ones, others in [([web], [path(8)]), ([path(8)], [web]), ([path(8), web], []), ([], [path(8), web])]:
                with self.assertRaises(Apart):
                    alike_products(ones, others)

    def test_by_name_and_nothing_changed(self):
        self.assertIs(alike_products(others=[SQUARE], ones=[path(2), path(2)]), True)
        check_fresh(self, alike_products, [SQUARE], [path(2), path(2)])
        check_fresh(self, alike_products, [path(3)], [path(2)])


def product_fits(webs):
    many, ties = product_by_words(webs)
    return many <= 40 and len(ties) <= 120


def orbits_by_search(web):
    lists = []
    for place in range(web[0]):
        for orbit in lists:
            if any(True for _ in namings_by_search(web, web, orbit[0], place)):
                orbit.append(place)
                break
        else:
            lists.append([place])
    return lists


class Orbits(unittest.TestCase):
    def test_products_by_search(self):
        lists = [
            [], [path(2)], [path(2)] * 2, [path(2)] * 4, [path(3), path(2)], [path(3)] * 2, [path(3)] * 3,
            [ring(3), path(3)], [star(4), path(2)], [star(4), star(4)], [path(4), star(4)], [TAILED, TAILED],
            [TAILED, path(3), path(2)], [ring(5), path(2)], [path(4), path(4), path(2)], [path(6), path(6)],
            [path(7), ring(5)], [path(7), path(5)], [path(3), star(3), path(4)], [path(5), path(2), path(3)], [full(7)],
            [path(7)], [star(7)], [full(4), TAILED], [(7, [(0, 1), (1, 2), (2, 3), (3, 4), (4, 5), (2, 6)])],
            [path(3), path(2), path(3), path(2)],
        ]
        for webs in lists:
            for seed in (1, 2):
                web = turned_factoring(webs, seed)[0]
                check_kinds(self, orbits(web), orbits_by_search(web))

    def test_primes(self):
        for web in PRIMES:
            for seed in (1, 2, 3):
                called = turned(web, called_anew(web[0], seed))
                check_kinds(self, orbits(called), orbits_by_search(called))

    def test_told(self):
        check_kinds(self, orbits(bare(1)), [[0]])
        check_kinds(self, orbits(path(3)), [[0, 2], [1]])
        check_kinds(self, orbits(LADDER), [[0, 1, 4, 5], [2, 3]])
        check_kinds(self, orbits(TAILED), [[0, 1], [2], [3]])
        check_kinds(self, orbits(ring(7)), [[0, 1, 2, 3, 4, 5, 6]])
        check_kinds(self, orbits(product_by_words([path(3), path(3)])), [[0, 2, 6, 8], [1, 3, 5, 7], [4]])
        # Rows of ends and middles: 1 is the middle of the one path, 0 that of the other.
        awaited = [[0, 4, 5, 6], [1, 2, 7, 8], [3]]
        check_kinds(self, orbits(product_by_words([path(3), star(3)])), awaited)

    def test_too_big(self):
        for webs in LARGE:
            big = [web for web in webs if any(many > 7 for many, _ in factored_by_words(web)[0])]
            for web in big:
                with self.assertRaises(TooBig):
                    orbits(web)

    def test_refusals(self):
        check_no_web(self, orbits)
        for web in ASUNDER:
            with self.assertRaises(Apart):
                orbits(web)

    def test_by_name_and_fresh(self):
        self.assertEqual(orbits(web=path(3)), [[0, 2], [1]])
        for web in (bare(1), path(3), LADDER, product_by_words([path(3), path(3)])):
            check_fresh(self, orbits, web)


if __name__ == "__main__":
    unittest.main()
