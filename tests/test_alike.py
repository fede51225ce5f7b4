import itertools
import unittest

from samples import (
    LADDER, SQUARE, bare, called_anew, check_fresh, check_kinds, check_no_web, from_pairs, full,
    is_naming_by_words, many_ties, namings_by_words, path, product_by_words, ring, star, turned,
)
from webtimes.alike import alike
from webtimes.errors import NoWeb, TooBig


def all_webs(many):
    pairs = list(itertools.combinations(range(many), 2))
    return [(many, list(ties)) for size in range(len(pairs) + 1) for ties in itertools.combinations(pairs, size)]


def side_by_side(*webs):
    """The web with these webs as pieces."""
    at, pairs = 0, []
    for many, ties in webs:
        pairs += [(at + one, at + other) for one, other in ties]
        at += many
    return from_pairs(at, pairs)


# Unlike webs that have as many ties at each place.
UNLIKE = [
    (ring(6), side_by_side(ring(3), ring(3))), (ring(7), side_by_side(ring(3), ring(4))),
    (product_by_words([ring(3), path(2)]), from_pairs(6, [(a, b) for a in range(3) for b in range(3, 6)])),
    (path(5), side_by_side(ring(3), path(2))), (path(7), side_by_side(ring(4), path(3))),
    (path(7), side_by_side(ring(5), path(2))), (side_by_side(path(4), ring(3)), side_by_side(path(3), ring(4))),
    (from_pairs(6, [(0, 1), (1, 2), (2, 3), (3, 4), (2, 5)]), from_pairs(6, [(0, 1), (1, 2), (2, 3), (3, 4), (1, 5)])),
]
SMALL = [
    bare(1), bare(7), path(2), path(7), ring(7), full(7), star(7), (7, [(0, 3), (0, 5)]), SQUARE, LADDER,
    side_by_side(path(2), path(2), path(2)), side_by_side(ring(4), ring(3)),
    from_pairs(7, [(0, 3), (3, 5), (5, 6), (1, 2)]), product_by_words([ring(3), path(2)]),
    side_by_side(bare(3), full(4)),
]


class Alike(unittest.TestCase):
    def check(self, one, other, awaited):
        told = alike(one, other)
        if awaited:
            self.assertIsInstance(told, list)
            self.assertTrue(is_naming_by_words(one, other, told))
            check_kinds(self, sorted(told), list(range(one[0])))
        else:
            self.assertIsNone(told)

    def test_all_webs_of_at_most_four_places(self):
        webs = [web for many in range(1, 5) for web in all_webs(many)]
        for one, other in itertools.product(webs, webs):
            if one[0] == other[0]:
                self.check(one, other, bool(namings_by_words(one, other)))
            elif len(one[1]) < 2:
                self.check(one, other, False)

    def test_webs_of_five_places(self):
        webs = all_webs(5)[::23]
        for one, other in itertools.product(webs, webs):
            self.check(one, other, bool(namings_by_words(one, other)))

    def test_webs_called_anew(self):
        for web in SMALL + [web for pair in UNLIKE for web in pair]:
            for seed in range(5):
                self.check(web, turned(web, called_anew(web[0], seed)), True)

    def test_unlike_webs(self):
        for one, other in UNLIKE:
            for seed in range(5):
                self.check(one, turned(other, called_anew(other[0], seed)), False)
                self.check(turned(other, called_anew(other[0], seed)), one, False)

    def test_of_unlike_sizes(self):
        self.check(bare(6), bare(7), False)
        self.check(bare(7), bare(6), False)
        self.check(full(7), (7, full(7)[1][:-1]), False)
        self.check((7, full(7)[1][:-1]), full(7), False)
        self.check(path(2), (3, [(0, 1)]), False)

    def test_told(self):
        check_kinds(self, alike(bare(1), bare(1)), [0])
        check_kinds(self, alike((3, [(0, 1)]), (3, [(1, 2)]))[2:], [0])
        self.assertIn(alike(path(3), star(3)), ([1, 0, 2], [2, 0, 1]))
        self.assertIsNone(alike(path(4), star(4)))

    def test_too_big(self):
        for big in (bare(8), path(8), full(16), many_ties(), bare(40)):
            for web in (bare(1), path(7), bare(8), path(8), big):
                with self.assertRaises(TooBig):
                    alike(big, web)
                with self.assertRaises(TooBig):
                    alike(web, big)

    def test_refusals(self):
        check_no_web(self, lambda thing: alike(thing, ()))
        check_no_web(self, lambda thing: alike(bare(8), thing))
        with self.assertRaises(NoWeb):
            alike(None, bare(8))

    def test_by_name_and_fresh(self):
        self.assertIn(alike(other=star(3), one=path(3)), ([1, 0, 2], [2, 0, 1]))
        pairs = [(bare(1), bare(1)), (ring(4), SQUARE), (full(7), full(7)), (path(3), ring(3)), (bare(2), bare(2))]
        for one, other in pairs:
            check_fresh(self, alike, one, other)


if __name__ == "__main__":
    unittest.main()
