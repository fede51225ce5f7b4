import unittest

from samples import (
    IN_PIECES, NO_PLACES, NO_WEBS, ODD, WEBS, bare, check_fresh, check_kinds, check_no_web, full, many_ties, path, star,
)
from webtimes.errors import NoPlace, NoWeb
from webtimes.webs import is_tied, is_whole, look_at_web, neighbours


class IsWhole(unittest.TestCase):
    def test_ints(self):
        for thing in (0, 1, -1, 40, 10 ** 40, -10 ** 40):
            self.assertIs(is_whole(thing), True)

    def test_truths_and_all_else(self):
        for thing in ODD:
            if not (isinstance(thing, int) and not isinstance(thing, bool)):
                self.assertIs(is_whole(thing), False)
        for thing in (True, False, 1.0, "1", None, [1], (1,)):
            self.assertIs(is_whole(thing), False)

    def test_by_name(self):
        self.assertIs(is_whole(thing=3), True)


class LookAtWeb(unittest.TestCase):
    def test_webs(self):
        for web in WEBS:
            self.assertIsNone(look_at_web(web))

    def test_the_bounds(self):
        self.assertIsNone(look_at_web(bare(1)))
        self.assertIsNone(look_at_web(bare(40)))
        self.assertIsNone(look_at_web((40, [(38, 39)])))
        self.assertEqual(len(full(16)[1]), 120)
        self.assertIsNone(look_at_web(full(16)))
        self.assertEqual((many_ties()[0], len(many_ties()[1])), (40, 120))
        self.assertIsNone(look_at_web(many_ties()))

    def test_refusals(self):
        check_no_web(self, look_at_web)

    def test_every_place_of_a_wrong_tie(self):
        ties = full(16)[1]
        for at in range(len(ties)):
            for wrong in (None, (ties[at][1], ties[at][0]), (15, 16), list(ties[at])):
                with self.assertRaises(NoWeb) as held:
                    look_at_web((16, ties[:at] + [wrong] + ties[at + 1:]))
                self.assertEqual((held.exception.part, held.exception.number), ("ties", at))

    def test_by_name_and_nothing_changed(self):
        self.assertIsNone(look_at_web(thing=path(3)))
        check_fresh(self, look_at_web, IN_PIECES)

    def test_no_web_is_left_as_it_was(self):
        for thing, _, _ in NO_WEBS:
            if isinstance(thing, tuple) and len(thing) == 2 and isinstance(thing[1], list):
                ahead = list(thing[1])
                with self.assertRaises(NoWeb):
                    look_at_web(thing)
                self.assertTrue(all(one is other for one, other in zip(ahead, thing[1], strict=True)))


class IsTied(unittest.TestCase):
    def test_all_pairs(self):
        for web in WEBS:
            for one in range(web[0]):
                for other in range(web[0]):
                    awaited = (one, other) in web[1] or (other, one) in web[1]
                    self.assertIs(is_tied(web, one, other), awaited)

    def test_never_to_itself(self):
        for place in range(4):
            self.assertIs(is_tied(full(4), place, place), False)

    def test_refusals(self):
        check_no_web(self, lambda web: is_tied(web, None, None))
        check_no_web(self, lambda web: is_tied(web, 0, 0))
        for thing in NO_PLACES:
            with self.assertRaises(NoPlace):
                is_tied(path(2), thing, 0)
            with self.assertRaises(NoPlace):
                is_tied(path(2), 0, thing)
            with self.assertRaises(NoPlace):
                is_tied(path(2), thing, thing)

    def test_by_name_and_nothing_changed(self):
        self.assertIs(is_tied(other=0, one=1, web=path(2)), True)
        check_fresh(self, is_tied, path(5), 1, 2)


class Neighbours(unittest.TestCase):
    def test_all_places(self):
        for web in WEBS:
            for place in range(web[0]):
                awaited = [k for k in range(web[0]) if (k, place) in web[1] or (place, k) in web[1]]
                check_kinds(self, neighbours(web, place), awaited)

    def test_told(self):
        self.assertEqual(neighbours(IN_PIECES, 5), [0, 3, 4])
        self.assertEqual(neighbours(IN_PIECES, 1), [])
        self.assertEqual(neighbours(star(5), 0), [1, 2, 3, 4])

    def test_refusals(self):
        check_no_web(self, lambda web: neighbours(web, None))
        check_no_web(self, lambda web: neighbours(web, 0))
        for thing in NO_PLACES:
            with self.assertRaises(NoPlace):
                neighbours(path(2), thing)

    def test_by_name_and_fresh(self):
        self.assertEqual(neighbours(place=1, web=path(3)), [0, 2])
        check_fresh(self, neighbours, full(5), 2)
        check_fresh(self, neighbours, bare(2), 1)


if __name__ == "__main__":
    unittest.main()
