import itertools
import random
import unittest

from samples import (
    HANGING, LADDER, PRIMES, PRODUCTS, bare, called_anew, check_apart, check_fresh, check_kinds, check_no_web,
    from_pairs, full, is_naming_by_words, many_ties, near_sets, path, petersen, product_by_words, ring, star,
    table_by_words, turned, turned_factoring,
)
from test_chains import every_link, hung_by_words
from webtimes.chains import hung, lets_links, shows_prime
from webtimes.classes import classes, links_of
from webtimes.factorings import lets_factoring
from webtimes.factors import factored, is_prime, prime_or_parted
from webtimes.layers import direction
from webtimes.products import power
from webtimes.roots import root_of
from webtimes.ways import hangs_together
from webtimes.webs import look_at_web


class Classes(unittest.TestCase):
    def test_they_are_what_all_links_hang(self):
        for web in [web for web in HANGING if web[0] <= 10]:
            check_kinds(self, classes(web), hung_by_words(web, every_link(web)))

    def test_all_webs_of_five_places(self):
        pairs = full(5)[1]
        for at in range(0, 2 ** len(pairs), 3):
            web = (5, [pair for k, pair in enumerate(pairs) if at >> k & 1])
            if hangs_together(web):
                self.assertEqual(classes(web), hung_by_words(web, every_link(web)))

    def test_they_are_the_directions_by_primes(self):
        for webs in PRODUCTS:
            for seed in (7, 8):
                web, factoring = turned_factoring(webs, seed)
                lists = [[tie for tie in web[1] if direction(factoring, *tie) == k] for k in range(len(webs))]
                check_kinds(self, classes(web), sorted(lists))

    def test_told(self):
        check_kinds(self, classes(bare(1)), [])
        check_kinds(self, classes(path(2)), [[(0, 1)]])
        check_kinds(self, classes(ring(4)), [[(0, 1), (2, 3)], [(0, 3), (1, 2)]])
        for web in PRIMES + [petersen(), full(16), many_ties(), path(40), ring(40)]:
            check_kinds(self, classes(web), [web[1]])
        check_kinds(self, classes(LADDER), [[(0, 1), (2, 3), (4, 5)], [(0, 2), (1, 3), (2, 4), (3, 5)]])

    def test_refusals(self):
        check_no_web(self, classes)
        check_apart(self, classes)

    def test_by_name_and_fresh(self):
        self.assertEqual(classes(web=path(2)), [[(0, 1)]])
        for web in (ring(4), ring(5), bare(1)):
            check_fresh(self, classes, web)


class LinksOf(unittest.TestCase):
    def test_they_are_links_that_hang_the_classes(self):
        webs = HANGING + [turned_factoring(webs, 9)[0] for webs in PRODUCTS]
        for web in webs:
            links = links_of(web)
            self.assertIs(lets_links(web, links), True)
            self.assertEqual(hung(web, links), classes(web))
            self.assertTrue(len(links) < len(web[1]) or (links == [] and web[1] == []))

    def test_none_where_there_are_no_ties(self):
        check_kinds(self, links_of(bare(1)), [])

    def test_as_few_as_there_may_be(self):
        self.assertEqual(len(links_of(full(16))), 119)
        self.assertEqual(links_of(path(2)), [])

    def test_refusals(self):
        check_no_web(self, links_of)
        check_apart(self, links_of)

    def test_by_name_and_fresh(self):
        self.assertEqual(links_of(web=path(2)), [])
        for web in (ring(4), ring(5), bare(1), full(5)):
            check_fresh(self, links_of, web)


def linked_by_words(web):
    """For each two linked ties the word of a link, `far` where both do."""
    far, near = table_by_words(web), near_sets(web)
    words = {}
    for (x, y), (u, v) in itertools.product(web[1], web[1]):
        common = {x, y} & {u, v}
        if far[x][u] + far[y][v] != far[x][v] + far[y][u]:
            words[(x, y), (u, v)] = "far"
        elif len(common) == 1:
            one, other = {x, y, u, v} - common
            if near[one] & near[other] == common:
                words[(x, y), (u, v)] = "corner"
    return words


def classes_by_words(web):
    """What is hung by all links that there are, from one tie to the next."""
    leads = {tie: [] for tie in web[1]}
    for one, other in linked_by_words(web):
        leads[one].append(other)
    lists, seen = [], set()
    for tie in web[1]:
        if tie not in seen:
            reached = [tie]
            seen.add(tie)
            for one in reached:
                more = [other for other in leads[one] if other not in seen]
                reached.extend(more)
                seen.update(more)
            lists.append(sorted(reached))
    return sorted(lists)


RINGS = [
    (6, [(0, 1), (0, 5), (1, 2), (2, 3), (3, 4), (4, 5)]),
    (6, [(0, 3), (0, 4), (0, 5), (1, 3), (1, 4), (1, 5), (2, 3), (2, 4), (2, 5)]),
]
# Webs of many ties, with how many classes they have.
LARGEST = [
    ((16, [(a, b) for a in range(16) for b in range(a + 1, 16)]), 1),
    (product_by_words([path(2)] * 5), 5),
    (product_by_words(RINGS), 2),
    ((40, [(a, b) for a in range(40) for b in range(a + 1, 40) if b - a in (1, 2, 3)][:118]), 1),
    (many_ties(), 1), (product_by_words([full(4), petersen()]), 2), (product_by_words([full(5), ring(8)]), 2),
    (path(40), 1), (ring(40), 1), (star(40), 1), (product_by_words([path(8), path(5)]), 2),
    (product_by_words([path(3), ring(3), ring(4)]), 4), (product_by_words([path(20), path(2)]), 2),
]


def webs_at_random():
    """Webs that hang together, of all sizes, at random."""
    chance = random.Random(11)
    webs = []
    for many in list(range(2, 41)) * 2:
        tree = [(chance.randrange(max(0, place - chance.choice([1, 3, 40])), place), place) for place in range(1, many)]
        more = chance.sample(full(many)[1], min(len(full(many)[1]), chance.choice([0, 1, 2, 5, 20, 80])))
        web = from_pairs(many, (tree + more)[:120])
        webs.append(turned(web, called_anew(many, chance.random())))
    return webs


class Largest(unittest.TestCase):
    def check(self, web):
        look_at_web(web)
        awaited = classes_by_words(web)
        check_kinds(self, classes(web), awaited)
        links = links_of(web)
        self.assertLess(len(links), len(web[1]))
        self.assertEqual(len(links), len(web[1]) - len(awaited))
        self.assertIs(lets_links(web, links), True)
        check_kinds(self, hung(web, links), awaited)
        self.assertIs(shows_prime(web, links), len(awaited) == 1)
        self.assertIs(is_prime(web), len(awaited) == 1)
        return awaited

    def test_they_hang_what_all_links_hang(self):
        for web, many in LARGEST:
            for seed in (None, 1, 2):
                called = web if seed is None else turned(web, called_anew(web[0], seed))
                self.assertEqual(len(self.check(called)), many)

    def test_webs_at_random(self):
        for web in webs_at_random():
            self.check(web)

    def test_their_factors(self):
        for web, many in LARGEST:
            told = factored(web)
            self.assertEqual(len(told[0]), many)
            self.assertIs(lets_factoring(web, told), True)
            if many == 1:
                check_kinds(self, told, ([web], [[place] for place in range(web[0])]))
                check_kinds(self, prime_or_parted(web), ("prime", links_of(web)))
            else:
                check_kinds(self, prime_or_parted(web), ("parted", told))

    def test_their_roots(self):
        word, root, naming = root_of(LARGEST[1][0], 5)
        self.assertEqual((word, root), ("root", path(2)))
        self.assertTrue(is_naming_by_words(power(root, 5), LARGEST[1][0], naming))
        # A ring of six is no complete web between two times three places.
        self.assertEqual(root_of(LARGEST[2][0]), ("none", 0, 1))
        self.assertEqual(root_of(LARGEST[0][0]), ("none", 0, 1))
        self.assertEqual(root_of(LARGEST[3][0]), ("none", 0, 1))
        web = product_by_words([RINGS[1], turned(RINGS[1], [3, 0, 5, 1, 4, 2])])
        word, root, naming = root_of(web)
        self.assertEqual(word, "root")
        self.assertTrue(is_naming_by_words(power(root), web, naming))


if __name__ == "__main__":
    unittest.main()
