import itertools
import unittest

from samples import bare, check_fresh, check_kinds, full, is_naming_by_words, namings_by_words, path
from webtimes.alike import alike
from webtimes.small import small_webs
from webtimes.ways import hangs_together
from webtimes.webs import look_at_web


def all_webs(many):
    pairs = full(many)[1]
    for size in range(len(pairs) + 1):
        for ties in itertools.combinations(pairs, size):
            yield (many, list(ties))


class SmallWebs(unittest.TestCase):
    def test_how_many(self):
        self.assertEqual([len(small_webs(places)) for places in range(1, 6)], [1, 1, 2, 6, 21])

    def test_each_is_a_web_that_hangs_together(self):
        for places in range(1, 6):
            told = small_webs(places)
            self.assertIsInstance(told, list)
            for web in told:
                self.assertIsNone(look_at_web(web))
                self.assertEqual(web[0], places)
                self.assertIs(hangs_together(web), True)

    def test_no_two_are_alike(self):
        for places in range(1, 6):
            for one, other in itertools.combinations(small_webs(places), 2):
                self.assertEqual(namings_by_words(one, other), [])

    def test_each_web_is_alike_to_one(self):
        for places in range(1, 5):
            told = small_webs(places)
            for web in all_webs(places):
                like = [one for one in told if namings_by_words(web, one)]
                self.assertEqual(len(like), 1 if hangs_together(web) else 0)
        told = small_webs(5)
        for web in all_webs(5):
            if hangs_together(web):
                namings = [(one, alike(web, one)) for one in told if alike(web, one) is not None]
                self.assertEqual(len(namings), 1)
                self.assertTrue(is_naming_by_words(web, namings[0][0], namings[0][1]))

    def test_told(self):
        check_kinds(self, small_webs(1), [bare(1)])
        check_kinds(self, small_webs(2), [path(2)])
        self.assertEqual(sorted(len(ties) for _, ties in small_webs(3)), [2, 3])
        self.assertEqual(sorted(len(ties) for _, ties in small_webs(4)), [3, 3, 4, 4, 5, 6])

    def test_somewhat_beyond_nothing_is_refused(self):
        self.assertEqual(len(small_webs(6)), 112)

    def test_by_name_and_fresh(self):
        self.assertEqual(small_webs(places=2), [path(2)])
        for places in range(1, 6):
            check_fresh(self, small_webs, places)


if __name__ == "__main__":
    unittest.main()
