import itertools
import unittest

from samples import (
    ASUNDER, HANGING, LADDER, ODD, SQUARE, Spiteful, bare, called_anew, check_apart, check_fresh, check_kinds,
    check_no_web, exchanged_naming, full, is_naming_by_words, many_ties, namings_by_words, path, petersen,
    product_by_words, ring, star, turned,
)
from test_factors import factored_by_words
from webtimes.errors import Apart, NoNaming
from webtimes.parts import joined_naming, parted_naming

LISTS = [
    [], [bare(1)], [path(2)], [ring(5)], [many_ties()], [path(2), path(2)], [path(3), path(2)], [path(2)] * 3,
    [path(2)] * 5, [path(3), path(3), path(3)], [path(2), path(3), path(2), path(3)], [ring(3), path(2), ring(3)],
    [full(4), petersen()], [star(4), path(4)], [path(20), path(2)], [SQUARE, LADDER], [path(6), path(6)],
]


def check_parts(case, one, other, naming, parts):
    """The parts are the naming's: there are no others that lead each place's told row as it does."""
    case.assertIsInstance(parts, tuple)
    turn, namings = parts
    factors, rows = factored_by_words(one)
    other_factors, other_rows = factored_by_words(other)
    case.assertIsInstance(turn, list)
    case.assertIsInstance(namings, list)
    check_kinds(case, sorted(turn), list(range(len(factors))))
    case.assertEqual(len(namings), len(factors))
    for number, part in enumerate(namings):
        case.assertIsInstance(part, list)
        case.assertTrue(is_naming_by_words(factors[number], other_factors[turn[number]], part))
        check_kinds(case, sorted(part), list(range(len(part))))
    for place, row in enumerate(rows):
        led = other_rows[naming[place]]
        for number in range(len(factors)):
            case.assertEqual(led[turn[number]], namings[number][row[number]])


class PartedNaming(unittest.TestCase):
    def test_factors_exchanged_and_turned(self):
        for webs in LISTS:
            for seed in (1, 2, 3):
                one, other, naming = exchanged_naming(webs, seed)
                check_parts(self, one, other, naming, parted_naming(one, other, naming))

    def test_from_a_web_to_itself(self):
        for web in HANGING:
            naming = list(range(web[0]))
            many = len(factored_by_words(web)[0])
            parts = parted_naming(web, web, naming)
            check_parts(self, web, web, naming, parts)
            self.assertEqual(parts[0], list(range(many)))

    def test_all_renamings(self):
        for web in [SQUARE, ring(4), LADDER, product_by_words([ring(3), path(2)]), product_by_words([path(2)] * 3)]:
            for naming in namings_by_words(web, web):
                check_parts(self, web, web, naming, parted_naming(web, web, naming))

    def test_told(self):
        check_kinds(self, parted_naming(bare(1), bare(1), [0]), ([], []))
        check_kinds(self, parted_naming(path(2), path(2), [1, 0]), ([0], [[1, 0]]))
        check_kinds(self, parted_naming(SQUARE, SQUARE, [0, 2, 1, 3]), ([1, 0], [[0, 1], [0, 1]]))
        check_kinds(self, parted_naming(SQUARE, SQUARE, [1, 3, 0, 2]), ([1, 0], [[0, 1], [1, 0]]))
        check_kinds(self, parted_naming(SQUARE, SQUARE, [2, 0, 3, 1]), ([1, 0], [[1, 0], [0, 1]]))
        # The told factors of the other web are the path (0, 1, 2) and the tie (0, 3), of this one the tie and the path.
        other = product_by_words([path(2), path(3)])
        self.assertEqual(factored_by_words(other)[0], [path(3), path(2)])
        check_kinds(self, parted_naming(LADDER, other, [3, 0, 4, 1, 5, 2]), ([1, 0], [[1, 0], [0, 1, 2]]))
        check_kinds(self, parted_naming(LADDER, other, [2, 5, 1, 4, 0, 3]), ([1, 0], [[0, 1], [2, 1, 0]]))

    def test_no_naming(self):
        namings = [
            [], [0, 1, 2], [0, 1, 2, 3, 3], [0, 1, 2, 2], [0, 1, 2, 4], [-1, 0, 1, 2], [0, 3, 1, 2], [0, 1, 3, 2],
            (0, 1, 2, 3), [False, True, 2, 3], [0.0, 1, 2, 3], [0, 1, 2, Spiteful()], [[0], [1], [2], [3]],
            ([0], [[0, 1]]),
        ]
        for thing in ODD + namings:
            with self.assertRaises(NoNaming):
                parted_naming(SQUARE, SQUARE, thing)
        for thing in ODD + [[1], [0, 0], [False]]:
            with self.assertRaises(NoNaming):
                parted_naming(bare(1), bare(1), thing)
        for one, other in [(path(3), ring(3)), (ring(3), path(3)), (path(3), path(2)), (path(2), path(3))]:
            for thing in ([0, 1, 2], [0, 1]):
                with self.assertRaises(NoNaming):
                    parted_naming(one, other, thing)

    def test_refusals(self):
        check_refusals(self, parted_naming)

    def test_by_name_and_fresh(self):
        told = parted_naming(naming=[1, 2, 0], other=star(3), one=(3, [(0, 2), (1, 2)]))
        self.assertEqual(told, ([0], [[1, 2, 0]]))
        for webs in ([], [path(3)], [path(2)] * 3, [path(3), path(2)]):
            check_fresh(self, parted_naming, *exchanged_naming(webs, 4))
        check_fresh(self, parted_naming, path(2), path(2), [0, 1])


def check_refusals(case, function):
    """NoWeb of the one, of the other, then Apart of either, all ahead of NoNaming."""
    check_no_web(case, lambda thing: function(thing, (), None))
    check_no_web(case, lambda thing: function(bare(2), thing, None))
    check_apart(case, lambda web: function(web, path(2), None))
    check_apart(case, lambda web: function(path(2), web, None))
    # What is a naming of webs in pieces is none that could be told in parts.
    for web in ASUNDER:
        with case.assertRaises(Apart):
            function(web, web, list(range(web[0])))


def all_parts(one, other):
    """All parts of namings between two webs of small factors."""
    factors = factored_by_words(one)[0]
    other_factors = factored_by_words(other)[0]
    if len(factors) == len(other_factors):
        for turn in itertools.permutations(range(len(factors))):
            each = [namings_by_words(factor, other_factors[to]) for factor, to in zip(factors, turn)]
            for namings in itertools.product(*each):
                yield list(turn), [list(part) for part in namings]


class JoinedNaming(unittest.TestCase):
    def test_the_way_back_from_the_parts(self):
        for webs in LISTS:
            for seed in (5, 6, 7):
                one, other, naming = exchanged_naming(webs, seed)
                check_kinds(self, joined_naming(one, other, parted_naming(one, other, naming)), naming)

    def test_all_parts(self):
        cube = product_by_words([path(2)] * 3)
        prism = product_by_words([ring(3), path(2)])
        pairs = [
            (SQUARE, ring(4)), (cube, turned(cube, called_anew(8, 1))), (LADDER, turned(LADDER, called_anew(6, 2))),
            (prism, product_by_words([path(2), ring(3)])), (bare(1), bare(1)), (path(3), star(3)), (path(4), star(4)),
        ]
        for one, other in pairs:
            told = []
            for parts in all_parts(one, other):
                naming = joined_naming(one, other, parts)
                check_parts(self, one, other, naming, parts)
                check_kinds(self, parted_naming(one, other, naming), parts)
                told.append(naming)
            self.assertEqual(sorted(told), namings_by_words(one, other))

    def test_told(self):
        check_kinds(self, joined_naming(bare(1), bare(1), ([], [])), [0])
        check_kinds(self, joined_naming(path(2), path(2), ([0], [[1, 0]])), [1, 0])
        check_kinds(self, joined_naming(SQUARE, SQUARE, ([1, 0], [[0, 1], [1, 0]])), [1, 3, 0, 2])
        other = product_by_words([path(2), path(3)])
        check_kinds(self, joined_naming(LADDER, other, ([1, 0], [[1, 0], [0, 1, 2]])), [3, 0, 4, 1, 5, 2])

    def test_no_parts(self):
        same = [0, 1]
        things = [
            ([0, 1], []), ([], [same, same]), ([0, 1], [same]), ([0], [same]), ([0, 1], [same, same, same]),
            ([0, 1, 2], [same, same, same]), ([0, 0], [same, same]), ([1, 1], [same, same]), ([0, 2], [same, same]),
            ([-1, 0], [same, same]), ((0, 1), [same, same]), ([0, 1], (same, same)), [[0, 1], [same, same]],
            ([0, 1], [same, same], []), ([0, 1],), ([False, True], [same, same]), ([0.0, 1], [same, same]),
            ([0, 1], [same, [0, 0]]), ([0, 1], [[1, 1], same]), ([0, 1], [same, [0]]), ([0, 1], [same, [0, 1, 2]]),
            ([0, 1], [same, (0, 1)]), ([0, 1], [same, [False, True]]), ([0, 1], [same, [-1, 0]]),
            ([0, 1], [same, None]), ([0, 1], [same, [0, 2]]), ([0, 1], [same, "01"]), ([None, 0], [same, same]),
            ([0, Spiteful()], [same, same]), ([0, 1], [same, Spiteful()]), ([0, 1], [same, [0, Spiteful()]]),
            (Spiteful(), [same, same]), ([0, 1], Spiteful()), ([0, 1], None), (None, [same, same]),
            ([0, 1], {0: same, 1: same}), [0, 1, 2, 3], ({0: 0, 1: 1}, [same, same]), ("01", [same, same]),
            ([[0], [1]], [same, same]), ([0, 10 ** 40], [same, same]),
        ]
        for thing in ODD + things:
            for one, other in [(SQUARE, ring(4)), (ring(4), ring(4))]:
                with self.assertRaises(NoNaming):
                    joined_naming(one, other, thing)
        odd = [thing for thing in ODD if not (isinstance(thing, tuple) and repr(thing) == "([], [])")]
        for thing in odd + [([0], [[0]]), ([], [[]]), ([], [[0]]), ([], ()), ((), []), ([], [], [])]:
            with self.assertRaises(NoNaming):
                joined_naming(bare(1), bare(1), thing)

    def test_parts_of_another_pair(self):
        webs = [bare(1), path(2), path(3), star(3), ring(3), SQUARE, LADDER, product_by_words([path(2)] * 3), path(4)]
        by_pair = {}
        for a, b in itertools.product(range(len(webs)), range(len(webs))):
            by_pair[a, b] = list(all_parts(webs[a], webs[b]))
        for (a, b), own in by_pair.items():
            for others in by_pair.values():
                for parts in others:
                    if parts in own:
                        self.assertTrue(is_naming_by_words(webs[a], webs[b], joined_naming(webs[a], webs[b], parts)))
                    else:
                        with self.assertRaises(NoNaming):
                            joined_naming(webs[a], webs[b], parts)

    def test_another_number_of_factors(self):
        same = [0, 1]
        things = [([0], [same]), ([1], [same]), ([0, 1], [same, same]), ([], []), ([0, 0], [same, same])]
        for one, other in [(SQUARE, path(2)), (path(2), SQUARE), (bare(1), path(2)), (path(2), bare(1))]:
            for parts in things:
                with self.assertRaises(NoNaming):
                    joined_naming(one, other, parts)

    def test_refusals(self):
        check_refusals(self, joined_naming)
        check_apart(self, lambda web: joined_naming(web, web, ([], [])))

    def test_by_name_and_fresh(self):
        self.assertEqual(joined_naming(parts=([0], [[1, 0, 2]]), other=star(3), one=path(3)), [1, 0, 2])
        check_fresh(self, joined_naming, SQUARE, SQUARE, ([1, 0], [[0, 1], [1, 0]]))
        check_fresh(self, joined_naming, path(3), path(3), ([0], [[0, 1, 2]]))
        check_fresh(self, joined_naming, bare(1), bare(1), ([], []))


if __name__ == "__main__":
    unittest.main()
