"""The bits of linked ties tell what the document's words do."""

import unittest

from samples import HANGING, PRODUCTS, bare, full, path, ring, turned_factoring
from test_chains import hung_by_words
from test_classes import linked_by_words, webs_at_random
from test_finest import MORE
from webtimes.linked import corner_bits, far_bits, joined, lists_by, near_bits, numbers_at, three_bits
from webtimes.webs import beside_all

WEBS = HANGING + MORE + [turned_factoring(webs, 1)[0] for webs in PRODUCTS] + webs_at_random()[::5]


def ties_in(web, bits):
    """For each tie those that its bits tell."""
    case = unittest.TestCase()
    case.assertEqual(len(bits), len(web[1]))
    for own in bits:
        case.assertEqual(own >> len(web[1]), 0)
    return [[tie for at, tie in enumerate(web[1]) if own >> at & 1] for own in bits]


class Bits(unittest.TestCase):
    def test_far(self):
        for web in WEBS:
            words = linked_by_words(web)
            awaited = [[other for other in web[1] if words.get((tie, other)) == "far"] for tie in web[1]]
            self.assertEqual(ties_in(web, far_bits(beside_all(web), web[1])), awaited)

    def test_corner(self):
        for web in WEBS:
            words = linked_by_words(web)
            found = ties_in(web, corner_bits(near_bits(*web), numbers_at(*web), web[1]))
            for tie, others in zip(web[1], found):
                for other in web[1]:
                    word = words.get((tie, other))
                    # Ties of a ring of three may be linked in both ways, and the word is `far`.
                    if word != "far":
                        self.assertEqual(other in others, word == "corner")
                    elif other in others:
                        common = set(tie) & set(other)
                        one, two = set(tie + other) - common
                        near = [place for place in range(web[0]) if is_tied(web, one, place)]
                        self.assertEqual({place for place in near if is_tied(web, two, place)}, common)

    def test_three(self):
        for web in WEBS:
            words = linked_by_words(web)
            found = ties_in(web, three_bits(near_bits(*web), numbers_at(*web), web[1]))
            for tie, others in zip(web[1], found):
                in_ring = any(is_tied(web, tie[0], place) and is_tied(web, tie[1], place) for place in range(web[0]))
                self.assertEqual(others != [], in_ring)
                for other in others:
                    self.assertEqual((words[tie, other], len(set(tie + other))), ("far", 3))
                    self.assertIn(tie, found[web[1].index(other)])

    def test_joined(self):
        for web in WEBS:
            bits = far_bits(beside_all(web), web[1])
            pairs, groups = joined(bits)
            links = [("far", web[1][one], web[1][other]) for one, other in pairs]
            lists = lists_by(web[1], groups)
            self.assertEqual(lists, hung_by_words(web, links))
            far = [("far", *ties) for ties, word in linked_by_words(web).items() if word == "far"]
            if web[0] <= 12:
                self.assertEqual(lists, hung_by_words(web, far))
            self.assertEqual(len(pairs), len(web[1]) - len(lists))
            for one, other in pairs:
                self.assertTrue(one < other and bits[other] >> one & 1)

    def test_told(self):
        self.assertEqual(far_bits([[]], []), [])
        self.assertEqual(joined([]), ([], []))
        self.assertEqual(far_bits(beside_all(path(3)), path(3)[1]), [1, 2])
        self.assertEqual(far_bits(beside_all(ring(4)), ring(4)[1]), [0b1001, 0b0110, 0b0110, 0b1001])
        self.assertEqual(joined([1, 2, 4]), ([], [1, 2, 4]))
        self.assertEqual(joined([1, 2, 3]), ([(0, 2), (1, 2)], [7]))
        self.assertEqual(near_bits(*full(3)), [6, 5, 3])
        self.assertEqual((near_bits(*bare(1)), numbers_at(*path(2))), ([0], [{1: 0}, {0: 0}]))


def is_tied(web, one, other):
    return (min(one, other), max(one, other)) in web[1]


if __name__ == "__main__":
    unittest.main()
