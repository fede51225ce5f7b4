import itertools
import unittest

from samples import (
    HANGING, LADDER, PRIMES, PRODUCTS, SQUARE, bare, check_apart, check_fresh, check_kinds, check_no_web, from_pairs,
    full, led_to, many_ties, namings_by_words, path, petersen, product_by_words, ring, star, turned, turned_factoring,
)
from webtimes.chains import shows_prime
from webtimes.classes import classes
from webtimes.factorings import lets_factoring
from webtimes.factors import factored, is_prime, prime_or_parted
from webtimes.layers import direction
from webtimes.ways import hangs_together

# More lists whose product is a web: of 40 places, of 120 ties, of one web of one place, none.
LISTS = PRODUCTS + [
    [], [bare(1)], [bare(1), path(3), bare(1), path(2)], [SQUARE, LADDER], [ring(5), path(8)], [path(3)] * 3,
    [full(6), full(4)], [full(4), full(4), path(2)], [path(2)] * 4, [ring(3), path(2), ring(3)], [path(40)],
    [many_ties()], [PRIMES[-1], PRIMES[-1]],
]
# Those of them without webs of one place are factorings by primes where each web is prime.
BY_PRIMES = [webs for webs in LISTS if not any(web in (bare(1), SQUARE, LADDER) for web in webs)]


def factored_by_words(web):
    lists = classes(web)
    factors, columns = [], []
    for own_ties in lists:
        places = sorted(led_to(own_ties, 0))
        pairs = itertools.combinations(range(len(places)), 2)
        factors.append((len(places), [(a, b) for a, b in pairs if (places[a], places[b]) in web[1]]))
        others = [tie for ties in lists if ties != own_ties for tie in ties]
        reached = [led_to(others, place) for place in places]
        columns.append([[k for k in range(len(places)) if place in reached[k]] for place in range(web[0])])
    if not all(len(found) == 1 for column in columns for found in column):
        raise AssertionError("not just one")
    return factors, [[column[place][0] for column in columns] for place in range(web[0])]


def turned_products():
    return [turned_factoring(webs, seed) for webs in BY_PRIMES for seed in (1, 2)]


class Factored(unittest.TestCase):
    def test_by_words(self):
        webs = HANGING + [turned_factoring(webs, seed)[0] for webs in LISTS for seed in (3, 4, 5)]
        for web in webs + [product_by_words(webs) for webs in LISTS]:
            check_kinds(self, factored(web), factored_by_words(web))

    def test_it_is_a_factoring_of_primes(self):
        for web in HANGING + [turned_factoring(webs, 6)[0] for webs in LISTS]:
            told = factored(web)
            self.assertIs(lets_factoring(web, told), True)
            for factor in told[0]:
                self.assertEqual(len(classes(factor)), 1)

    def test_each_class_has_one_direction(self):
        for web in HANGING + [turned_factoring(webs, 7)[0] for webs in LISTS]:
            told = factored(web)
            for number, ties in enumerate(classes(web)):
                for one, other in ties:
                    self.assertEqual(direction(told, one, other), number)

    def test_the_factors_are_those_that_were_multiplied(self):
        for web, (webs, rows) in turned_products():
            factors, told_rows = factored(web)
            self.assertEqual(len(factors), len(webs))
            # The order of the classes: by their first ties.
            order = []
            for one, other in web[1]:
                at = direction((webs, rows), one, other)
                order += [at] if at not in order else []
            for number, at in enumerate(order):
                # What is called by the number k among the told factor's places.
                names = {told_rows[place][number]: rows[place][at] for place in range(web[0])}
                self.assertEqual(turned(factors[number], [names[k] for k in range(len(names))]), webs[at])

    def test_told(self):
        check_kinds(self, factored(bare(1)), ([], [[]]))
        check_kinds(self, factored(path(2)), ([path(2)], [[0], [1]]))
        check_kinds(self, factored(SQUARE), ([path(2), path(2)], [[0, 0], [1, 0], [0, 1], [1, 1]]))
        check_kinds(self, factored(ring(4)), ([path(2), path(2)], [[0, 0], [1, 0], [1, 1], [0, 1]]))
        rows = [[0, 0], [1, 0], [0, 1], [1, 1], [0, 2], [1, 2]]
        check_kinds(self, factored(LADDER), ([path(2), path(3)], rows))
        # A ladder with 5 - 0 - 4 on the one side and 2 - 3 - 1 on the other: 0 is in the middle of its path.
        web = from_pairs(6, [(5, 0), (0, 4), (2, 3), (3, 1), (5, 2), (0, 3), (4, 1)])
        rows = [[0, 0], [1, 1], [1, 2], [1, 0], [0, 1], [0, 2]]
        self.assertEqual(classes(web)[0], [(0, 3), (1, 4), (2, 5)])
        check_kinds(self, factored(web), ([path(2), star(3)], [[row[0], row[1]] for row in rows]))

    def test_a_prime_is_its_own_factor(self):
        for web in PRIMES + [path(40), ring(40), many_ties(), full(16), petersen(), star(40)]:
            check_kinds(self, factored(web), ([web], [[place] for place in range(web[0])]))

    def test_refusals(self):
        check_no_web(self, factored)
        check_apart(self, factored)

    def test_by_name_and_fresh(self):
        self.assertEqual(factored(web=path(2)), ([path(2)], [[0], [1]]))
        for web in (bare(1), path(3), ring(4), turned_factoring([path(2)] * 5, 1)[0], LADDER):
            check_fresh(self, factored, web)


def is_product_of_two(web, kinds):
    return any(namings_by_words(web, product_by_words(webs)) for webs in kinds)


class IsPrime(unittest.TestCase):
    def test_primes(self):
        for web in PRIMES + [path(40), ring(40), many_ties(), full(16), petersen(), star(40), ring(6)]:
            self.assertIs(is_prime(web), True)

    def test_one_place(self):
        self.assertIs(is_prime(bare(1)), False)

    def test_products(self):
        for webs in LISTS:
            web = turned_factoring(webs, 8)[0]
            more = [factor for factor in webs if factor[0] > 1]
            self.assertIs(is_prime(web), len(more) == 1 and more[0] not in (SQUARE, LADDER))

    def test_all_webs_of_at_most_four_places(self):
        for many in range(1, 5):
            pairs = list(itertools.combinations(range(many), 2))
            for size in range(len(pairs) + 1):
                for ties in itertools.combinations(pairs, size):
                    web = (many, list(ties))
                    if hangs_together(web):
                        awaited = many > 1 and not is_product_of_two(web, [[path(2), path(2)]])
                        self.assertIs(is_prime(web), awaited)

    def test_webs_of_six_places(self):
        # With seven or nine ties they may be products of a tie and a web of three places.
        kinds = [[path(2), path(3)], [path(2), full(3)]]
        parted = set()
        for kind in kinds:
            many, ties = product_by_words(kind)
            for order in itertools.permutations(range(many)):
                parted.add(tuple(turned((many, ties), order)[1]))
        pairs = list(itertools.combinations(range(6), 2))
        chosen = list(itertools.combinations(pairs, 7))[::7] + list(itertools.combinations(pairs, 9))[::7]
        for ties in list(parted) + chosen:
            web = (6, list(ties))
            if hangs_together(web):
                self.assertIs(is_prime(web), ties not in parted)
        self.assertEqual(len(parted), 180 + 60)

    def test_refusals(self):
        check_no_web(self, is_prime)
        check_apart(self, is_prime)

    def test_by_name_and_nothing_changed(self):
        self.assertIs(is_prime(web=path(2)), True)
        check_fresh(self, is_prime, LADDER)


class PrimeOrParted(unittest.TestCase):
    def test_one_place(self):
        check_kinds(self, prime_or_parted(bare(1)), ("one",))

    def test_primes(self):
        for web in PRIMES + [path(40), ring(40), many_ties(), full(16), petersen(), star(40)]:
            told = prime_or_parted(web)
            self.assertIsInstance(told, tuple)
            word, links = told
            self.assertEqual(word, "prime")
            self.assertIs(shows_prime(web, links), True)
        check_kinds(self, prime_or_parted(path(2)), ("prime", []))

    def test_products(self):
        for webs in [webs for webs in LISTS if len([web for web in webs if web[0] > 1]) > 1]:
            web = turned_factoring(webs, 9)[0]
            check_kinds(self, prime_or_parted(web), ("parted", factored_by_words(web)))

    def test_refusals(self):
        check_no_web(self, prime_or_parted)
        check_apart(self, prime_or_parted)

    def test_by_name_and_fresh(self):
        self.assertEqual(prime_or_parted(web=path(2)), ("prime", []))
        for web in (bare(1), path(2), ring(5), full(5), ring(4), LADDER):
            check_fresh(self, prime_or_parted, web)


if __name__ == "__main__":
    unittest.main()
