import itertools
import unittest

from samples import SQUARE, bare, check_fresh, check_kinds, path, ring, star, table_by_words, turned, turned_factoring
from test_factorings import FACTORS
from webtimes.factorings import lets_factoring, own_factoring
from webtimes.layers import direction, gate, gathered, layer, place_with
from webtimes.products import product
from webtimes.ways import hangs_together, within

TURNED = [turned_factoring(webs, seed) for webs in FACTORS for seed in (0, 1)]


def with_place(row, number, place):
    return [place if k == number else row[k] for k in range(len(row))]


class Direction(unittest.TestCase):
    def test_all_ties(self):
        for web, (webs, rows) in TURNED:
            for one, other in web[1]:
                unlike = [k for k in range(len(webs)) if rows[one][k] != rows[other][k]]
                self.assertEqual(len(unlike), 1)
                check_kinds(self, direction((webs, rows), one, other), unlike[0])
                check_kinds(self, direction((webs, rows), other, one), unlike[0])

    def test_by_name_and_nothing_changed(self):
        self.assertEqual(direction(other=1, one=0, factoring=own_factoring([path(2), path(3)])), 1)
        self.assertEqual(direction(other=0, one=3, factoring=own_factoring([path(2), path(3)])), 0)
        check_fresh(self, direction, own_factoring([path(2), path(3)]), 0, 1)


class PlaceWith(unittest.TestCase):
    def test_all_rows(self):
        for _, (webs, rows) in TURNED:
            for place, row in enumerate(rows):
                check_kinds(self, place_with((webs, rows), list(row)), place)
        self.assertEqual(place_with(([], [[]]), []), 0)

    def test_by_name_and_nothing_changed(self):
        self.assertEqual(place_with(row=[1, 2], factoring=own_factoring([path(2), path(3)])), 5)
        check_fresh(self, place_with, own_factoring([path(2), path(3)]), [1, 0])


class Layer(unittest.TestCase):
    def test_all_layers(self):
        for _, (webs, rows) in TURNED:
            for place in range(len(rows)):
                for number in range(len(webs)):
                    awaited = [rows.index(with_place(rows[place], number, k)) for k in range(webs[number][0])]
                    check_kinds(self, layer((webs, rows), place, number), awaited)

    def test_it_is_the_web_of_its_direction(self):
        for web, (webs, rows) in TURNED:
            for number in range(len(webs)):
                places = layer((webs, rows), web[0] - 1, number)
                self.assertIn(web[0] - 1, places)
                numbers = [places.index(place) for place in sorted(places)]
                self.assertEqual(turned(within(web, sorted(places)), numbers), webs[number])

    def test_by_name_and_fresh(self):
        factoring = own_factoring([path(2), path(3)])
        self.assertEqual(layer(number=1, place=4, factoring=factoring), [3, 4, 5])
        self.assertEqual(layer(number=0, place=4, factoring=factoring), [1, 4])
        check_fresh(self, layer, factoring, 4, 1)


class Gate(unittest.TestCase):
    def test_all_gates(self):
        for web, (webs, rows) in TURNED:
            places = range(0, web[0], 1 if web[0] < 20 else 3)
            for place, other in itertools.product(places, places):
                for number in range(len(webs)):
                    told = gate((webs, rows), place, other, number)
                    at = rows[place][number]
                    check_kinds(self, told, rows.index(with_place(rows[other], number, at)))
                    through = [k for k in layer((webs, rows), other, number) if rows[k][number] == at]
                    self.assertEqual([told], through)

    def test_shortest_ways_lead_through_it(self):
        for web, factoring in TURNED:
            if hangs_together(web) and web[0] <= 24:
                far = table_by_words(web)
                for place, other in itertools.product(range(web[0]), range(web[0])):
                    for number in range(len(factoring[0])):
                        told = gate(factoring, place, other, number)
                        for end in layer(factoring, other, number):
                            self.assertEqual(far[place][told] + far[told][end], far[place][end])

    def test_by_name_and_nothing_changed(self):
        factoring = own_factoring([path(2), path(3)])
        self.assertEqual(gate(number=1, other=3, place=2, factoring=factoring), 5)
        self.assertEqual(gate(number=0, other=3, place=2, factoring=factoring), 0)
        check_fresh(self, gate, factoring, 2, 3, 1)


def groupings(many):
    """All ways to put the numbers into groups, in a few orders of groups and within them."""
    def parted(numbers):
        if not numbers:
            yield []
            return
        for rest in parted(numbers[1:]):
            yield [[numbers[0]]] + rest
            for k in range(len(rest)):
                yield rest[:k] + [rest[k] + [numbers[0]]] + rest[k + 1:]
    for groups in parted(list(range(many))):
        yield groups
        yield [group[::-1] for group in groups[::-1]]
        yield sorted(sorted(group) for group in groups)


class Gathered(unittest.TestCase):
    def test_all_groups(self):
        for web, (webs, rows) in TURNED:
            for groups in groupings(len(webs)):
                told = gathered((webs, rows), groups)
                lists = [[webs[k] for k in group] for group in groups]
                awaited_rows = []
                for row in rows:
                    new = []
                    for group in groups:
                        number = 0
                        for k in group:
                            number = number * webs[k][0] + row[k]
                        new.append(number)
                    awaited_rows.append(new)
                check_kinds(self, told, ([product(part) for part in lists], awaited_rows))
                self.assertIs(lets_factoring(web, told), True)

    def test_told(self):
        factoring = own_factoring([path(2), path(3), path(2)])
        self.assertEqual(gathered(factoring, [[0], [1], [2]]), factoring)
        webs, rows = gathered(factoring, [[2, 0], [1]])
        self.assertEqual(webs, [SQUARE, path(3)])
        self.assertEqual(rows, [[a + 2 * c, b] for a in range(2) for b in range(3) for c in range(2)])
        webs, rows = gathered(factoring, [[0, 1, 2]])
        self.assertEqual((webs, rows), ([product([path(2), path(3), path(2)])], [[k] for k in range(12)]))

    def test_of_no_webs(self):
        check_kinds(self, gathered(([], [[]]), []), ([], [[]]))

    def test_by_name_and_fresh(self):
        factoring = own_factoring([path(2), path(3)])
        self.assertEqual(gathered(groups=[[1], [0]], factoring=factoring)[0], [path(3), path(2)])
        twice = ring(4)
        rows = [[a, b] for a in range(4) for b in range(4)]
        check_fresh(self, gathered, ([twice, twice], rows), [[0], [1]])
        check_fresh(self, gathered, ([twice, twice], rows), [[1, 0]])
        check_fresh(self, gathered, own_factoring([bare(2), star(4)]), [[1], [0]])
        check_fresh(self, gathered, ([], [[]]), [])


if __name__ == "__main__":
    unittest.main()
