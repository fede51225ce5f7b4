import copy
import itertools
import random
import unittest

from samples import ODD, Spiteful, check_fresh, check_kinds
from webtimes.errors import NoDivisor, NoSum, TooBig
from webtimes.sums import Sum

NAUGHT = [Sum([], kinds) for kinds in range(1, 5)]
ONE = [Sum([((0,) * kinds, 1)], kinds) for kinds in range(1, 5)]
# What is no list of terms of two kinds.
NO_TERMS = [thing for thing in ODD if not (isinstance(thing, list) and len(thing) == 0)] + [
    (), (((0, 0), 1),), {(0, 0): 1}, [[(0, 0), 1]], [([0, 0], 1)], [((0, 0),)], [((0, 0), 1, 1)], [(0, 0)], [((0,), 1)],
    [((0, 0, 0), 1)], [((), 1)], [(0, 1)], [((0, 0), 0)], [((0, 0), -1)], [((0, 0), True)], [((0, 0), 1.0)],
    [((0, 0), "1")], [((0, 0), None)], [((0, 25), 1)], [((25, 0), 1)], [((-1, 0), 1)], [((0, -1), 1)],
    [((True, 0), 1)], [((0, False), 1)], [((0.0, 0), 1)], [((0, "0"), 1)], [((0, None), 1)], [((0, Spiteful()), 1)],
    [(Spiteful(), 1)], [((0, 0), Spiteful())], [((0, 0), 1), ((0, 0), 1)], [((0, 1), 1), ((0, 0), 1)],
    [((1, 0), 1), ((0, 24), 1)], [((0, 0), 1), ((0, 2), 1), ((0, 1), 1)], [((0, 0), 1), None], [None, ((0, 0), 1)],
    [((0, 0), 1), ((0, 1), 0)], [((0, 0), 1), ((0, 1, 0), 1)], [((0, 1), 2), ((0, 1), 3)], "", [(((0, 0),), 1)],
]
NO_KINDS = [thing for thing in ODD] + [0, 5, -1, 1.0, True, "1", [1], None, 10 ** 40]
RISING_48 = [((a, b), 1) for a in range(6) for b in range(8)]


def by_powers(total):
    return {powers: many for powers, many in total.terms()}


def from_powers(many_by, kinds):
    return Sum(sorted(many_by.items()), kinds)


def added_by_words(one, other):
    many_by = by_powers(one)
    for powers, many in other.terms():
        many_by[powers] = many_by.get(powers, 0) + many
    return many_by


def multiplied_by_words(one, other):
    many_by = {}
    for (powers, many), (others, other_many) in itertools.product(one.terms(), other.terms()):
        key = tuple(a + b for a, b in zip(powers, others))
        many_by[key] = many_by.get(key, 0) + many * other_many
    return many_by


def some_sum(chance, kinds, most_terms, most_power, most_many=3):
    size = chance.randrange(most_terms + 1)
    keys = {tuple(chance.randrange(most_power + 1) for _ in range(kinds)) for _ in range(size)}
    return Sum([(key, chance.randrange(1, most_many + 1)) for key in sorted(keys)], kinds)


def small_sums(most_power, most_many, most_terms):
    """All sums of one kind with few terms."""
    for size in range(most_terms + 1):
        for powers in itertools.combinations(range(most_power + 1), size):
            for manies in itertools.product(range(1, most_many + 1), repeat=size):
                yield Sum([((power,), many) for power, many in zip(powers, manies)])


class WhatItIsMadeOf(unittest.TestCase):
    def test_told(self):
        terms = [((0, 1), 3), ((2, 0), 1)]
        check_kinds(self, Sum(terms, 2).terms(), terms)
        check_kinds(self, Sum(terms, 2).kinds(), 2)
        check_kinds(self, Sum([((24,), 10 ** 59)]).terms(), [((24,), 10 ** 59)])
        check_kinds(self, Sum([((3,), 1)]).kinds(), 1)
        for kinds in range(1, 5):
            check_kinds(self, (Sum([], kinds).terms(), Sum([], kinds).kinds()), ([], kinds))

    def test_by_name(self):
        total = Sum(kinds=2, terms=[((0, 1), 3)])
        self.assertEqual((total.terms(), total.kinds()), ([((0, 1), 3)], 2))
        self.assertEqual(total.added(other=total).terms(), [((0, 1), 6)])
        self.assertEqual(total.multiplied(other=total).terms(), [((0, 2), 9)])
        self.assertEqual(total.divided(other=total), ONE[1])

    def test_forty_eight_terms_and_more(self):
        self.assertEqual(len(Sum(RISING_48, 2)), 48)
        with self.assertRaises(NoSum):
            Sum(RISING_48 + [((6, 0), 1)], 2)
        with self.assertRaises(NoSum):
            Sum([None] * 49, 2)

    def test_powers_of_24_and_more(self):
        for kinds in range(1, 5):
            for at in range(kinds):
                powers = [0] * kinds
                powers[at] = 24
                self.assertEqual(Sum([(tuple(powers), 1)], kinds).terms(), [(tuple(powers), 1)])
                powers[at] = 25
                with self.assertRaises(NoSum):
                    Sum([(tuple(powers), 1)], kinds)

    def test_what_is_no_sum(self):
        for thing in NO_TERMS:
            with self.assertRaises(NoSum):
                Sum(thing, 2)
            with self.assertRaises(NoSum):
                Sum(thing, 4)
        for thing in NO_KINDS:
            for terms in ([], [((0,), 1)], None):
                with self.assertRaises(NoSum):
                    Sum(terms, thing)
        for kinds in (1, 3, 4):
            with self.assertRaises(NoSum):
                Sum([((0, 1), 3)], kinds)

    def test_its_terms_are_copies(self):
        terms = [((0,), 1), ((1,), 2)]
        total = Sum(terms)
        terms.append(((0,), 5))
        terms[0] = None
        self.assertEqual(total.terms(), [((0,), 1), ((1,), 2)])
        told = total.terms()
        told.clear()
        self.assertEqual(total.terms(), [((0,), 1), ((1,), 2)])
        self.assertIsNot(total.terms(), total.terms())
        self.assertEqual(len(total), 2)

    def test_what_is_handed_in_stays(self):
        check_fresh(self, lambda terms: Sum(terms, 2).terms(), RISING_48)
        check_fresh(self, lambda terms: Sum(terms).terms(), [])


class AsAnObject(unittest.TestCase):
    def test_len_and_truth(self):
        for many in (0, 1, 2, 48):
            self.assertEqual(len(Sum(RISING_48[:many], 2)), many)
            self.assertIs(bool(Sum(RISING_48[:many], 2)), many > 0)

    def test_equal(self):
        one = Sum([((0, 1), 3), ((2, 0), 1)], 2)
        self.assertIs(one == Sum([((0, 1), 3), ((2, 0), 1)], 2), True)
        self.assertIs(one != Sum([((0, 1), 3), ((2, 0), 1)], 2), False)
        self.assertIs(one == copy.deepcopy(one), True)
        first, last = ((0, 1), 3), ((2, 0), 1)
        for other in ([], [first], [last], [first, ((2, 0), 2)], [first, ((2, 1), 1)], [((0, 1), 2), last]):
            self.assertIs(one == Sum(other, 2), False)
            self.assertIs(one != Sum(other, 2), True)
        for a, b in itertools.product(range(4), range(4)):
            self.assertIs(NAUGHT[a] == NAUGHT[b], a == b)
        self.assertIs(Sum([((0,), 1)]) == Sum([((0,), 1)], 1), True)

    def test_equal_beside_anything(self):
        one = Sum([((0,), 1)])
        for thing in [thing for thing in ODD if not isinstance(thing, Spiteful)]:
            self.assertIs(one == thing, False)
            self.assertIs(NAUGHT[0] == thing, False)
            self.assertIs(one != thing, True)
        for thing in ([((0,), 1)], ([((0,), 1)], 1), "Sum([((0,), 1)], 1)", repr(one)):
            self.assertIs(one == thing, False)
        # Beside what may not be compared it is asked first, and tells.
        self.assertIs(one.__eq__(Spiteful()), False)

    def test_repr_and_str(self):
        for terms, kinds, text in [
            ([((0, 1), 3), ((2, 0), 1)], 2, "Sum([((0, 1), 3), ((2, 0), 1)], 2)"), ([], 1, "Sum([], 1)"),
            ([((7,), 10 ** 30)], 1, "Sum([((7,), 1" + "0" * 30 + ")], 1)"), ([], 4, "Sum([], 4)"),
            ([((0, 1, 2), 1)], 3, "Sum([((0, 1, 2), 1)], 3)"),
        ]:
            self.assertEqual(repr(Sum(terms, kinds)), text)
            self.assertEqual(str(Sum(terms, kinds)), text)
            self.assertEqual(f"{Sum(terms, kinds)}", text)
            self.assertEqual(eval(text), Sum(terms, kinds))

    def test_each_method_is_its_own(self):
        for name in ("terms", "kinds", "added", "multiplied", "divided", "__eq__", "__len__", "__repr__", "__str__"):
            self.assertIn(name, vars(Sum))


class AddedAndMultiplied(unittest.TestCase):
    def test_by_words(self):
        chance = random.Random(1)
        for _ in range(300):
            kinds = chance.randrange(1, 5)
            one, other = [some_sum(chance, kinds, 6, 5) for _ in range(2)]
            kept = (repr(one), repr(other))
            check_kinds(self, one.added(other).terms(), sorted(added_by_words(one, other).items()))
            check_kinds(self, one.multiplied(other).terms(), sorted(multiplied_by_words(one, other).items()))
            self.assertEqual((one.added(other).kinds(), one.multiplied(other).kinds()), (kinds, kinds))
            self.assertEqual((repr(one), repr(other)), kept)
            self.assertEqual(one.added(other), other.added(one))
            self.assertEqual(one.multiplied(other), other.multiplied(one))

    def test_told(self):
        one = Sum([((0,), 1), ((1,), 2)])
        self.assertEqual(one.added(Sum([((1,), 1), ((3,), 1)])).terms(), [((0,), 1), ((1,), 3), ((3,), 1)])
        self.assertEqual(one.multiplied(one).terms(), [((0,), 1), ((1,), 4), ((2,), 4)])
        self.assertEqual(Sum([((1, 0), 2)], 2).multiplied(Sum([((0, 3), 5)], 2)).terms(), [((1, 3), 10)])

    def test_without_terms_and_one(self):
        chance = random.Random(2)
        for kinds in range(1, 5):
            for _ in range(10):
                one = some_sum(chance, kinds, 6, 24)
                self.assertEqual(one.added(NAUGHT[kinds - 1]), one)
                self.assertEqual(one.multiplied(NAUGHT[kinds - 1]), NAUGHT[kinds - 1])
                self.assertEqual(one.multiplied(ONE[kinds - 1]), one)

    def test_the_document_s_parting(self):
        one = Sum([((0,), 1), ((1,), 1), ((2,), 1)]).multiplied(Sum([((0,), 1), ((3,), 1)]))
        other = Sum([((0,), 1), ((1,), 1)]).multiplied(Sum([((0,), 1), ((2,), 1), ((4,), 1)]))
        self.assertEqual(one, other)
        self.assertEqual(one.terms(), [((power,), 1) for power in range(6)])

    def test_forty_eight_terms_and_more(self):
        total = Sum(RISING_48[:24], 2)
        self.assertEqual(len(total.added(Sum(RISING_48[24:], 2))), 48)
        self.assertEqual(len(Sum(RISING_48, 2).added(Sum(RISING_48, 2))), 48)
        with self.assertRaises(TooBig):
            Sum(RISING_48, 2).added(Sum([((6, 0), 1)], 2))
        with self.assertRaises(TooBig):
            Sum([((6, 0), 1)], 2).added(Sum(RISING_48, 2))
        six = Sum([((power, 0), 1) for power in range(6)], 2)
        eight = Sum([((0, power), 1) for power in range(8)], 2)
        self.assertEqual(six.multiplied(eight).terms(), RISING_48)
        seven = Sum([((power, 0), 1) for power in range(7)], 2)
        with self.assertRaises(TooBig):
            seven.multiplied(Sum([((0, power), 1) for power in range(7)], 2))

    def test_powers_of_24_and_more(self):
        for kinds in range(1, 5):
            for at in range(kinds):
                high, low = [0] * kinds, [0] * kinds
                high[at], low[at] = 23, 1
                one, two = Sum([(tuple(high), 1)], kinds), Sum([(tuple(low), 1)], kinds)
                self.assertEqual(one.multiplied(two).terms()[0][0][at], 24)
                with self.assertRaises(TooBig):
                    one.multiplied(two).multiplied(two)
                with self.assertRaises(TooBig):
                    two.multiplied(one.multiplied(two))
                self.assertEqual(one.multiplied(two).added(one.multiplied(two)).terms()[0][1], 2)

    def test_refusals(self):
        others = [thing for thing in ODD] + [[((0,), 1)], "Sum([], 1)", Sum, ([], 1)]
        for one in (Sum([((0,), 1)]), NAUGHT[0]):
            for other in others + NAUGHT[1:] + ONE[1:] + [Sum(RISING_48, 2)]:
                for deed in (one.added, one.multiplied, one.divided):
                    with self.assertRaises(NoSum):
                        deed(other)
        with self.assertRaises(NoSum):
            Sum(RISING_48, 2).added(ONE[2])
        # Another number of kinds goes ahead of what is too big.
        with self.assertRaises(NoSum):
            Sum([((24, 24), 1)], 2).multiplied(Sum([((24,), 1)]))


class Divided(unittest.TestCase):
    def test_what_was_multiplied(self):
        chance = random.Random(3)
        for _ in range(400):
            kinds = chance.randrange(1, 5)
            one, other = [some_sum(chance, kinds, 6, 6, 4) for _ in range(2)]
            if other:
                total = one.multiplied(other)
                told = total.divided(other)
                self.assertIsInstance(told, Sum)
                self.assertEqual(told, one)

    def test_all_small_sums(self):
        divisors = [total for total in small_sums(2, 2, 3) if total]
        quotients = list(small_sums(4, 4, 3))
        chance = random.Random(4)
        firsts = chance.sample(list(small_sums(4, 4, 3)), 120) + chance.sample(list(small_sums(4, 2, 5)), 60)
        for other in divisors:
            made = {repr(other.multiplied(total)): total for total in quotients if total.terms()}
            for first in firsts:
                told = first.divided(other)
                if told is None:
                    self.assertNotIn(repr(first), made)
                else:
                    self.assertEqual(from_powers(multiplied_by_words(told, other), 1), first)
            for first in chance.sample(list(made), 20):
                self.assertEqual(eval(first).divided(other), made[first])

    def test_all_small_sums_of_two_kinds(self):
        keys = list(itertools.product(range(2), range(2)))
        sums = []
        for size in range(1, 4):
            for powers in itertools.combinations(keys, size):
                sums.extend(Sum(list(zip(powers, manies)), 2) for manies in itertools.product((1, 2), repeat=size))
        made = {}
        for one, other in itertools.product(sums, sums):
            made[repr(other), repr(one.multiplied(other))] = one
        for first, other in itertools.product(sums, sums):
            told = first.divided(other)
            self.assertEqual(told, made.get((repr(other), repr(first))))

    def test_told(self):
        six = Sum([((power,), 1) for power in range(6)])
        self.assertEqual(six.divided(Sum([((0,), 1), ((3,), 1)])), Sum([((0,), 1), ((1,), 1), ((2,), 1)]))
        self.assertEqual(six.divided(Sum([((0,), 1), ((1,), 1)])), Sum([((0,), 1), ((2,), 1), ((4,), 1)]))
        self.assertIsNone(six.divided(Sum([((0,), 1), ((4,), 1)])))
        # 1 + xxx is (1 + x)(1 - x + xx): that is no sum. Nor does 1 go into halves, nor x into xx.
        self.assertIsNone(Sum([((0,), 1), ((3,), 1)]).divided(Sum([((0,), 1), ((1,), 1)])))
        self.assertIsNone(Sum([((0,), 1)]).divided(Sum([((0,), 2)])))
        self.assertIsNone(Sum([((0,), 3), ((1,), 2)]).divided(Sum([((0,), 2)])))
        self.assertIsNone(Sum([((1,), 1)]).divided(Sum([((2,), 1)])))
        self.assertIsNone(Sum([((0, 2), 1)], 2).divided(Sum([((1, 0), 1)], 2)))
        self.assertIsNone(Sum([((1, 2), 1)], 2).divided(Sum([((0, 3), 1)], 2)))
        self.assertEqual(Sum([((0,), 6)]).divided(Sum([((0,), 2)])), Sum([((0,), 3)]))
        self.assertEqual(Sum([((24,), 10 ** 59)]).divided(Sum([((24,), 10 ** 9)])), Sum([((0,), 10 ** 50)]))
        self.assertIsNone(Sum([((24,), 10 ** 59 + 1)]).divided(Sum([((24,), 10 ** 9)])))
        self.assertIsNone(Sum([((0,), 1), ((1,), 1)]).divided(Sum([((0,), 1), ((1,), 1), ((2,), 1)])))

    def test_many_terms(self):
        total = Sum(RISING_48, 2)
        six = Sum([((power, 0), 1) for power in range(6)], 2)
        self.assertEqual(total.divided(six), Sum([((0, power), 1) for power in range(8)], 2))
        self.assertEqual(total.divided(ONE[1]), total)
        self.assertEqual(total.divided(total), ONE[1])

    def test_the_first_without_terms(self):
        for kinds in range(1, 5):
            self.assertEqual(NAUGHT[kinds - 1].divided(ONE[kinds - 1]), NAUGHT[kinds - 1])
            self.assertEqual(NAUGHT[kinds - 1].divided(ONE[kinds - 1]).kinds(), kinds)
        self.assertEqual(NAUGHT[1].divided(Sum(RISING_48, 2)), NAUGHT[1])

    def test_no_divisor(self):
        for kinds in range(1, 5):
            for one in (NAUGHT[kinds - 1], ONE[kinds - 1]):
                with self.assertRaises(NoDivisor):
                    one.divided(NAUGHT[kinds - 1])
            # NoSum goes first.
            for other in NAUGHT:
                if other.kinds() != kinds:
                    with self.assertRaises(NoSum):
                        ONE[kinds - 1].divided(other)

    def test_nothing_is_changed(self):
        one, other = Sum(RISING_48, 2), Sum([((0, 0), 1), ((0, 1), 1)], 2)
        kept = (repr(one), repr(other))
        told = one.divided(other)
        self.assertEqual((repr(one), repr(other)), kept)
        self.assertEqual(told, one.divided(other))
        self.assertIsNot(told, one.divided(other))
        told.terms().clear()
        self.assertEqual(told, one.divided(other))


if __name__ == "__main__":
    unittest.main()
