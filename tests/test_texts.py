import random
import unittest

from samples import (
    IN_PIECES, LADDER, ODD, SQUARE, WEBS, WEBS_LISTS, bare, check_fresh, check_kinds, check_no_web, check_no_webs, full,
    many_ties, path, ring, star,
)
from webtimes.errors import NoText
from webtimes.texts import read_web, read_webs, show_web, show_webs

# Texts that write no web.
NO_TEXTS = [
    "", " ", "  ", "0", "41", "99", "100", "00", "01", "-1", "+1", "1.0", "1 ", " 1", "1  ", "one", "none", "None", "*",
    " * ", "2 * 2", "2 0-1 * 2", "2  0-1", "2 0-1 ", " 2 0-1", "2 0-1  ", "2 1-0", "2 0-0", "2 0-2", "2 0-1 0-1",
    "3 0-2 0-1", "3 1-2 0-1", "3 0-1 1-2 0-2", "2 0 1", "2 01", "2 0--1", "2 -0-1", "2 0-1-", "2 0-1-1", "2 0-", "2 -1",
    "2 -", "2 0_1", "2 0,1", "2 0 -1", "2 0- 1", "2 0 - 1", "2 00-1", "2 0-01", "02 0-1", "2 0-+1", "2 +0-1", "2 a-b",
    "2 0-1\n", "\n2 0-1", "2\n0-1", "2\t0-1", "2 0-1\t", "\t1", "2,0-1", "2:0-1", "2 (0-1)", "(2, [(0, 1)])", "2 [0-1]",
    "0-1", "2-3", "3 0-1 x", "3 x 0-1", "1 0-0", "1 0-1", "40 0-40", "40 38-39 39-40", "3 0-1 1-2 ", "3 0-1  1-2",
    "2 0-1 *", "* 2 0-1", "2 0-1* 2", "1" * 60, "2 " + "0" * 60 + "-1", "2 0-" + "1" * 60, "9" * 50 + " 0-1", "-",
    "2 0 ", "17 " + " ".join(f"{one}-{other}" for one, other in full(17)[1][:121]), "2 0-1 1-2", "3 0-2 1-3",
    "4 0-1 0-2 1-2 x-3", "2 0.0-1", "2 0-1.0", "1e1", "0x1", "1_0", "4 0-1 0-1_0", "40 1_0-12", "2 O-1", "2 0-l",
    "2 0~1", "2;0-1", "true",
]


class Show(unittest.TestCase):
    def test_told(self):
        for web, text in [
            (SQUARE, "4 0-1 0-2 1-3 2-3"), (bare(1), "1"), (bare(40), "40"), (path(2), "2 0-1"),
            (LADDER, "6 0-1 0-2 1-3 2-3 2-4 3-5 4-5"), (IN_PIECES, "8 0-3 0-5 2-7 3-5 4-5"), ((40, [(9, 10), (38, 39)]),
                                                                                            "40 9-10 38-39"),
        ]:
            check_kinds(self, show_web(web), text)
            check_kinds(self, show_webs([web]), text)

    def test_webs(self):
        check_kinds(self, show_webs([]), "none")
        check_kinds(self, show_webs([bare(1), path(2), SQUARE]), "1 * 2 0-1 * 4 0-1 0-2 1-3 2-3")
        check_kinds(self, show_webs([bare(3)] * 12), " * ".join(["3"] * 12))
        for webs in WEBS_LISTS:
            check_kinds(self, show_webs(webs), " * ".join([show_web(web) for web in webs]) if webs else "none")

    def test_the_longest(self):
        self.assertLess(len(show_webs([many_ties()] * 12)), 9000)

    def test_refusals(self):
        check_no_web(self, show_web)
        check_no_webs(self, show_webs)

    def test_by_name_and_nothing_changed(self):
        self.assertEqual((show_web(web=bare(1)), show_webs(webs=[])), ("1", "none"))
        check_fresh(self, show_web, SQUARE)
        check_fresh(self, show_webs, [SQUARE, path(3)])


class ReadWeb(unittest.TestCase):
    def test_what_is_written_is_read_back(self):
        for web in WEBS + [(40, [(9, 10), (38, 39)]), (17, full(17)[1][:120])]:
            check_kinds(self, read_web(show_web(web)), web)

    def test_told(self):
        check_kinds(self, read_web("4 0-1 0-2 1-3 2-3"), SQUARE)
        check_kinds(self, read_web("1"), bare(1))
        check_kinds(self, read_web("10 0-9"), (10, [(0, 9)]))

    def check_none(self, thing):
        with self.assertRaises(NoText) as held:
            read_web(thing)
        check_kinds(self, held.exception.part, 0)

    def test_texts_that_write_no_web(self):
        for text in NO_TEXTS:
            self.check_none(text)

    def test_anything(self):
        for thing in [thing for thing in ODD if not isinstance(thing, str)] + [1, 2, b"1", ["1"], ("1",), path(2)]:
            self.check_none(thing)

    def test_texts_changed_at_one_sign(self):
        chance = random.Random(1)
        signs = [chr(code) for code in range(32, 127)] + ["\n", "\t"]
        for web in (SQUARE, LADDER, (12, [(0, 11), (9, 10)]), path(2), bare(7), star(12)):
            text = show_web(web)
            for _ in range(600):
                at = chance.randrange(len(text) + 1)
                sign = chance.choice(signs + list("0123456789-- ") * 8)
                other = text[:at] + sign + text[at + chance.randrange(2):]
                try:
                    told = read_web(other)
                except NoText as held:
                    self.assertEqual(held.part, 0)
                else:
                    self.assertEqual(show_web(told), other)

    def test_by_name_and_fresh(self):
        self.assertEqual(read_web(text="1"), bare(1))
        check_fresh(self, read_web, "4 0-1 0-2 1-3 2-3")


class ReadWebs(unittest.TestCase):
    def check_part(self, thing, part):
        with self.assertRaises(NoText) as held:
            read_webs(thing)
        check_kinds(self, held.exception.part, part)

    def test_what_is_written_is_read_back(self):
        for webs in WEBS_LISTS + [[many_ties()] * 12, [web for web in WEBS][:12], [web for web in WEBS][-12:]]:
            check_kinds(self, read_webs(show_webs(webs)), webs)

    def test_told(self):
        check_kinds(self, read_webs("none"), [])
        check_kinds(self, read_webs("1"), [bare(1)])
        check_kinds(self, read_webs("2 0-1 * 1 * 2 0-1"), [path(2), bare(1), path(2)])

    def test_one_part_that_writes_no_web(self):
        # With a part behind it, a ` *` at the end would be cut elsewhere.
        for text in [text for text in NO_TEXTS if " * " not in text + " "]:
            if text != "none":
                self.check_part(text, 0)
            self.check_part(text + " * 1", 0)
            self.check_part("1 * " + text, 1)
            self.check_part("1 * 2 0-1 * " + text + " * " + text, 2)
            self.check_part("3 * " * 11 + text, 11)

    def test_the_part_s_number(self):
        for text, part in [
            ("", 0), (" * ", 0), ("1 * ", 1), (" * 1", 0), ("1 *  * 1", 1), ("1 * * 1", 1), ("1 *  1", 1),
            ("1  * 1", 0), ("1 *1", 0), ("1* 1", 0), ("1*1", 0), ("1 ** 1", 0), ("none * 1", 0), ("1 * none", 1),
            ("none * none", 0), (" none", 0), ("none ", 0), ("None", 0), ("none\n", 0), ("1 * 2 0-1 * 3 1-0 * x", 2),
            ("1 * 1 * ", 2), ("1 * 1 *", 1), ("1 * 1 * * ", 2), ("1 * 2 0-1\n * 3", 1), ("1\n* 2", 0),
        ]:
            self.check_part(text, part)

    def test_twelve_and_more(self):
        check_kinds(self, read_webs(" * ".join(["1"] * 12)), [bare(1)] * 12)
        for many in (13, 14, 30):
            self.check_part(" * ".join(["1"] * many), 12)
        self.check_part(" * ".join(["1"] * 12 + ["x"]), 12)
        self.check_part(" * ".join(["1"] * 12 + [""]), 12)
        self.check_part(" * ".join(["1"] * 12 + ["none"]), 12)
        self.check_part(" * ".join(["1"] * 13 + ["x"]), 12)
        self.check_part(" * ".join(["1"] * 11 + ["x"] * 5), 11)
        self.check_part(" * ".join(["1"] * 5 + ["x"] + ["1"] * 10), 5)
        self.check_part(" * ".join(["x"] + ["1"] * 12), 0)

    def test_anything(self):
        things = [None, 1, b"1", ["1"], [], (), [bare(1)], path(2)]
        for thing in [thing for thing in ODD if not isinstance(thing, str)] + things:
            self.check_part(thing, 0)

    def test_by_name_and_fresh(self):
        self.assertEqual(read_webs(text="none"), [])
        check_fresh(self, read_webs, "none")
        check_fresh(self, read_webs, "2 0-1 * 1 * 2 0-1 * " + show_web(ring(5)))


if __name__ == "__main__":
    unittest.main()
