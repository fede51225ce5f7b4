import unittest

from samples import (
    IN_PIECES, NO_PLACES, NO_ROWS, ODD, TRIPLE, WEBS, WEBS_LISTS, bare, check_fresh, check_kinds, check_no_webs, full,
    path, product_by_words, ring, rows_by_order, star, tied_by_words,
)
from webtimes.errors import NoPlace
from webtimes.rows import is_row, look_at_webs, number_of, places_of, row_of, rows_beside, rows_tied, ties_of

BIG = [path(40)] * 12


class LookAtWebs(unittest.TestCase):
    def test_webs(self):
        for webs in WEBS_LISTS + [[], WEBS[:12], BIG, [bare(1)] * 12]:
            self.assertIsNone(look_at_webs(webs))

    def test_refusals(self):
        check_no_webs(self, look_at_webs)

    def test_by_name_and_nothing_changed(self):
        self.assertIsNone(look_at_webs(thing=[path(2)]))
        check_fresh(self, look_at_webs, [path(2), ring(3)])


class IsRow(unittest.TestCase):
    def test_rows(self):
        for webs in WEBS_LISTS:
            for row in rows_by_order(webs):
                self.assertIs(is_row(webs, row), True)
        self.assertIs(is_row(BIG, [39] * 12), True)

    def test_the_row_of_no_webs(self):
        self.assertIs(is_row([], []), True)
        for thing in ODD:
            if not (isinstance(thing, list) and len(thing) == 0):
                self.assertIs(is_row([], thing), False)
        self.assertIs(is_row([], ()), False)

    def test_anything_else(self):
        for thing in NO_ROWS + ODD:
            self.assertIs(is_row(TRIPLE, thing), False)
        self.assertIs(is_row(BIG, [39] * 11 + [40]), False)
        self.assertIs(is_row(BIG, [39] * 13), False)

    def test_refusals(self):
        check_no_webs(self, lambda webs: is_row(webs, None))
        check_no_webs(self, lambda webs: is_row(webs, [0]))

    def test_by_name_and_nothing_changed(self):
        self.assertIs(is_row(thing=[1], webs=[path(2)]), True)
        check_fresh(self, is_row, [path(2)], [1])


class Many(unittest.TestCase):
    def test_counts(self):
        for webs in WEBS_LISTS:
            many, ties = product_by_words(webs)
            check_kinds(self, places_of(webs), many)
            check_kinds(self, ties_of(webs), len(ties))

    def test_beyond_what_is_made(self):
        for webs in ([IN_PIECES, ring(5), path(3)], [star(6), full(4), full(5)], [path(40), path(3)], [path(2)] * 8):
            many, ties = product_by_words(webs)
            check_kinds(self, (places_of(webs), ties_of(webs)), (many, len(ties)))

    def test_however_great(self):
        self.assertEqual(places_of(BIG), 40 ** 12)
        self.assertEqual(ties_of(BIG), 12 * 39 * 40 ** 11)
        webs = [full(16), bare(40), path(7)]
        self.assertEqual(places_of(webs), 16 * 40 * 7)
        self.assertEqual(ties_of(webs), 120 * 40 * 7 + 6 * 16 * 40)

    def test_of_no_webs(self):
        check_kinds(self, (places_of([]), ties_of([])), (1, 0))

    def test_refusals(self):
        check_no_webs(self, places_of)
        check_no_webs(self, ties_of)

    def test_by_name_and_nothing_changed(self):
        self.assertEqual((places_of(webs=[path(3)]), ties_of(webs=[path(3)])), (3, 2))
        check_fresh(self, places_of, [path(3), ring(4)])
        check_fresh(self, ties_of, [path(3), ring(4)])


class Numbers(unittest.TestCase):
    def test_the_order_of_lists(self):
        for webs in WEBS_LISTS:
            for number, row in enumerate(rows_by_order(webs)):
                check_kinds(self, number_of(webs, row), number)
                check_kinds(self, row_of(webs, number), row)

    def test_the_first_place_tells_first(self):
        self.assertEqual(number_of([path(3), path(2)], [1, 0]), 2)
        self.assertEqual(number_of([path(2), path(3)], [1, 0]), 3)
        self.assertEqual(row_of([path(2), path(3)], 4), [1, 1])

    def test_great_numbers(self):
        self.assertEqual(number_of(BIG, [39] * 12), 40 ** 12 - 1)
        self.assertEqual(row_of(BIG, 40 ** 12 - 1), [39] * 12)
        self.assertEqual(row_of(BIG, 40 ** 11), [1] + [0] * 11)
        row = [7, 0, 39, 1, 2, 3, 4, 5, 6, 38, 0, 11]
        self.assertEqual(row_of(BIG, number_of(BIG, row)), row)

    def test_of_no_webs(self):
        self.assertEqual(number_of([], []), 0)
        self.assertEqual(row_of([], 0), [])

    def test_no_rows(self):
        for thing in NO_ROWS + ODD:
            with self.assertRaises(NoPlace):
                number_of(TRIPLE, thing)
        with self.assertRaises(NoPlace):
            number_of([], [0])
        with self.assertRaises(NoPlace):
            number_of([], ())

    def test_no_numbers(self):
        for thing in NO_PLACES + ODD + [2, -1, 2.0, [0], [1]]:
            with self.assertRaises(NoPlace):
                row_of([bare(1), path(2)], thing)
        for thing in (1, -1, False, None, []):
            with self.assertRaises(NoPlace):
                row_of([], thing)
        for thing in (40 ** 12, -1, 40 ** 13):
            with self.assertRaises(NoPlace):
                row_of(BIG, thing)

    def test_refusals(self):
        for wrong in (None, [0], [0, 0]):
            check_no_webs(self, lambda webs, wrong=wrong: number_of(webs, wrong))
        for wrong in (None, 0, -1):
            check_no_webs(self, lambda webs, wrong=wrong: row_of(webs, wrong))

    def test_by_name_and_fresh(self):
        self.assertEqual(number_of(row=[1, 1], webs=[path(2), path(3)]), 4)
        self.assertEqual(row_of(number=4, webs=[path(2), path(3)]), [1, 1])
        check_fresh(self, number_of, [path(2), path(3)], [1, 1])
        check_fresh(self, row_of, [path(2), path(3)], 5)
        check_fresh(self, row_of, [], 0)


class RowsTied(unittest.TestCase):
    def test_all_pairs(self):
        for webs in WEBS_LISTS:
            rows = rows_by_order(webs)
            for one in rows:
                for other in rows:
                    self.assertIs(rows_tied(webs, one, other), tied_by_words(webs, one, other))

    def test_told(self):
        webs = [path(3), path(3)]
        self.assertIs(rows_tied(webs, [0, 0], [0, 1]), True)
        self.assertIs(rows_tied(webs, [2, 1], [1, 1]), True)
        self.assertIs(rows_tied(webs, [0, 0], [1, 1]), False)
        self.assertIs(rows_tied(webs, [0, 0], [0, 2]), False)
        self.assertIs(rows_tied(webs, [0, 0], [0, 0]), False)
        self.assertIs(rows_tied([], [], []), False)
        self.assertIs(rows_tied(BIG, [5] * 12, [5] * 11 + [4]), True)

    def test_refusals(self):
        check_no_webs(self, lambda webs: rows_tied(webs, None, None))
        check_no_webs(self, lambda webs: rows_tied(webs, [], []))
        for thing in NO_ROWS + ODD:
            with self.assertRaises(NoPlace):
                rows_tied(TRIPLE, thing, [0, 0, 0])
            with self.assertRaises(NoPlace):
                rows_tied(TRIPLE, [0, 0, 0], thing)

    def test_by_name_and_nothing_changed(self):
        self.assertIs(rows_tied(other=[0], one=[1], webs=[path(2)]), True)
        check_fresh(self, rows_tied, [path(2), path(3)], [0, 0], [0, 1])


class RowsBeside(unittest.TestCase):
    def test_all_rows(self):
        for webs in WEBS_LISTS:
            rows = rows_by_order(webs)
            for one in rows:
                check_kinds(self, rows_beside(webs, one), [row for row in rows if tied_by_words(webs, one, row)])

    def test_told(self):
        self.assertEqual(rows_beside([path(3), path(3)], [1, 1]), [[0, 1], [1, 0], [1, 2], [2, 1]])
        self.assertEqual(rows_beside([], []), [])
        self.assertEqual(rows_beside([bare(2)], [1]), [])
        told = rows_beside(BIG, [39] * 12)
        self.assertEqual(told, sorted([39] * k + [38] + [39] * (11 - k) for k in range(12)))
        self.assertEqual(len(rows_beside([star(40)] * 12, [0] * 12)), 12 * 39)

    def test_refusals(self):
        check_no_webs(self, lambda webs: rows_beside(webs, None))
        check_no_webs(self, lambda webs: rows_beside(webs, []))
        for thing in NO_ROWS + ODD:
            with self.assertRaises(NoPlace):
                rows_beside(TRIPLE, thing)

    def test_by_name_and_fresh(self):
        self.assertEqual(rows_beside(row=[0], webs=[path(2)]), [[1]])
        check_fresh(self, rows_beside, [path(3), ring(4)], [1, 2])
        check_fresh(self, rows_beside, [bare(3)], [1])


if __name__ == "__main__":
    unittest.main()
