import unittest

from samples import (
    HANGING, LADDER, PRIMES, SQUARE, bare, check_apart, check_fresh, check_kinds, check_no_web, full,
    is_naming_by_words, many_ties, namings_by_words, path, petersen, product_by_words, ring, star, turned,
    turned_factoring,
)
from test_factors import LISTS
from test_likeness import MORE, TAILED, like_by_words
from webtimes.roots import root_of

# What is raised, and by how much.
RAISED = [
    ([path(2)], 2), ([path(2)], 3), ([path(2)], 4), ([path(2)], 5), ([path(2)], 1), ([path(2), path(2)], 2),
    ([path(3)], 2), ([path(3)], 3), ([ring(3)], 3), ([path(2), path(3)], 2), ([path(2), ring(3)], 2), ([star(4)], 2),
    ([TAILED], 2), ([path(6)], 2), ([ring(6)], 2), ([full(5)], 2), ([], 1), ([], 2), ([], 12), ([], 13),
    ([petersen()], 1), ([many_ties()], 1), ([path(20), path(2)], 1), ([full(4), petersen()], 1), ([path(2)] * 5, 1),
    ([path(3), path(2), path(3), path(2)], 1), ([path(8), ring(5)], 1),
]


class RootOf(unittest.TestCase):
    def check_root(self, web, times, told):
        self.assertIsInstance(told, tuple)
        word, root, naming = told
        self.assertEqual(word, "root")
        check_kinds(self, sorted(naming), list(range(web[0])))
        self.assertTrue(is_naming_by_words(product_by_words([root] * times), web, naming))

    def test_powers(self):
        for primes, times in RAISED:
            for seed in (1, 2, 3):
                base = turned_factoring(primes, seed)[0]
                web = turned_factoring([base] * times, seed + 1)[0]
                told = root_of(web, times)
                self.check_root(web, times, told)
                # Any two roots by the same times are alike.
                if base[0] <= 6:
                    self.assertTrue(namings_by_words(told[1], base))

    def test_products_of_like_factors_that_are_called_otherwise(self):
        for webs in [[path(3), star(3)], [TAILED, turned(TAILED, [3, 1, 0, 2])], [path(2), path(3), path(2), star(3)]]:
            for seed in (1, 2, 3):
                web = turned_factoring(webs, seed)[0]
                self.check_root(web, 2, root_of(web, 2))

    def test_all_by_words(self):
        webs = HANGING + [turned_factoring(webs, seed)[0] for webs in LISTS + MORE for seed in (4, 5)]
        for web in webs:
            like = like_by_words(web)
            for times in range(1, 6):
                wrong = [number for number in range(len(like)) if len(like[number]) % times != 0]
                told = root_of(web, times)
                if wrong:
                    check_kinds(self, told, ("none", wrong[0], len(like[wrong[0]])))
                else:
                    self.check_root(web, times, told)

    def test_two_where_times_is_left_out(self):
        for web in HANGING + [turned_factoring(webs, 6)[0] for webs in LISTS]:
            check_kinds(self, root_of(web), root_of(web, 2))

    def test_told(self):
        check_kinds(self, root_of(bare(1)), ("root", (1, []), [0]))
        check_kinds(self, root_of(bare(1), 12), ("root", (1, []), [0]))
        check_kinds(self, root_of(SQUARE)[:2], ("root", path(2)))
        check_kinds(self, root_of(LADDER), ("none", 0, 1))
        check_kinds(self, root_of(path(2)), ("none", 0, 1))
        check_kinds(self, root_of(path(2), 12), ("none", 0, 1))
        check_kinds(self, root_of(many_ties(), 3), ("none", 0, 1))
        # The two ties are numbers 0 and 1, the path is number 2.
        check_kinds(self, root_of(product_by_words([path(3), path(2), path(2)])), ("none", 2, 1))
        check_kinds(self, root_of(product_by_words([path(3), path(2), path(2)]), 3), ("none", 0, 2))
        check_kinds(self, root_of(product_by_words([path(2), path(2), path(3)])), ("none", 0, 1))
        check_kinds(self, root_of(product_by_words([path(2)] * 3)), ("none", 0, 3))

    def test_by_one_each_web_is_its_own_root(self):
        for web in HANGING + PRIMES:
            told = root_of(web, 1)
            self.check_root(web, 1, told)

    def test_refusals(self):
        check_no_web(self, root_of)
        check_no_web(self, lambda thing: root_of(thing, 12))
        check_apart(self, root_of)
        check_apart(self, lambda web: root_of(web, 1))

    def test_by_name_and_fresh(self):
        check_kinds(self, root_of(times=3, web=path(2)), ("none", 0, 1))
        check_kinds(self, root_of(times=1, web=path(2))[:2], ("root", path(2)))
        for web, times in [(bare(1), 3), (path(2), 1), (SQUARE, 2), (LADDER, 2), (product_by_words([path(2)] * 4), 2)]:
            check_fresh(self, root_of, web, times)
        check_fresh(self, root_of, full(4), 1)


if __name__ == "__main__":
    unittest.main()
