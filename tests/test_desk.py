import math
import random
import unittest

from samples import (
    IN_PIECES, LADDER, ODD, SQUARE, WEBS_LISTS, bare, check_kinds, full, many_ties, path, petersen, ring, star,
)
from test_texts import NO_TEXTS
from webtimes.counts import far, ways_many
from webtimes.desk import Desk
from webtimes.errors import Apart, NoDeed, NoLine, NoName, NoPlace, NoText, TooBig
from webtimes.keeping import alike_products, kept_many, primes_of
from webtimes.rows import places_of, ties_of
from webtimes.texts import show_webs

NO_NAMES = ["A", "aB", "a1", "a_b", "abcdefghi", "", "-", "1", "a-", "a\n", "\ta", "a\tb", "a,b", "a.b", "a~", "none*"]
NO_ROWS_OF_WORDS = [
    "0,", ",0", ",", "0,,1", "00", "01", "0,01", "-1", "0,-", "-,0", "--", "+1", "1.0", "a", "0,a", "12345", "0,10000",
    "[0]", "0;1", "0\n", "0\t", "\n0", "1_0", "0x1", "(0)", "0*",
]


def kept_desk(**names):
    """A desk whose names keep these webs."""
    desk = Desk()
    for name, webs in names.items():
        desk.say("keep " + name + " " + show_webs(webs))
    return desk


def state(desk):
    return {name: desk.say("show " + name) for name in desk.say("names").split(" ") if name != "-"}


def written_row(row):
    return ",".join(map(str, row)) if row else "-"


class Refusing(unittest.TestCase):
    def check_refused(self, desk, error, row):
        """The row is refused, and nothing is changed."""
        ahead = state(desk)
        with self.assertRaises(error) as held:
            desk.say(row)
        self.assertIs(held.exception.__class__, error, row)
        self.assertEqual(state(desk), ahead)
        return held.exception

    def check_no_name(self, desk, name, row):
        self.assertEqual(self.check_refused(desk, NoName, row).name, name)


class Deeds(Refusing):
    def test_keep(self):
        desk = Desk()
        for webs in WEBS_LISTS:
            check_kinds(self, desk.say("keep web " + show_webs(webs)), "ok")
            check_kinds(self, desk.say("show web"), show_webs(webs))
        for name in ("a", "z", "abcdefgh", "zzzzzzzz", "none", "keep", "names", "undo", "ok"):
            check_kinds(self, desk.say("keep " + name + " 1"), "ok")
            check_kinds(self, desk.say("show " + name), "1")

    def test_times(self):
        desk = kept_desk(a=[path(2)], b=[path(3), ring(3)], none=[])
        for row, text in [
            ("times c a b", "2 0-1 * 3 0-1 1-2 * 3 0-1 0-2 1-2"), ("times c b a", "3 0-1 1-2 * 3 0-1 0-2 1-2 * 2 0-1"),
            ("times c a", "2 0-1"), ("times c none", "none"), ("times c none none", "none"),
            ("times c a a", "2 0-1 * 2 0-1"), ("times c c a", "2 0-1 * 2 0-1 * 2 0-1"),
            ("times c a none c", "2 0-1 * 2 0-1 * 2 0-1 * 2 0-1"), ("times c none c", "2 0-1 * 2 0-1 * 2 0-1 * 2 0-1"),
            ("times new a", "2 0-1"),
        ]:
            check_kinds(self, desk.say(row), "ok")
            self.assertEqual(desk.say("show " + row.split(" ")[1]), text)
        self.assertEqual(desk.say("show a"), "2 0-1")

    def test_times_twelve_webs_and_more(self):
        desk = kept_desk(a=[path(2)] * 6, b=[bare(1)], c=[path(3)])
        desk.say("times d a a")
        self.assertEqual(desk.say("show d"), show_webs([path(2)] * 12))
        desk.say("times d" + " b" * 12)
        self.assertEqual(desk.say("show d"), show_webs([bare(1)] * 12))
        for row in ("times d a a b", "times c a a c", "times new d b", "times d" + " b" * 13, "times d d d d d"):
            self.check_refused(desk, TooBig, row)
        desk.say("keep a 1")
        self.assertEqual(desk.say("times d" + " a b" * 6), "ok")

    def test_a_name_that_keeps_something_else_later(self):
        desk = kept_desk(a=[path(2)])
        desk.say("times b a a")
        desk.say("keep a none")
        self.assertEqual(desk.say("show b"), "2 0-1 * 2 0-1")
        desk.say("drop a")
        self.assertEqual(desk.say("show b"), "2 0-1 * 2 0-1")

    def test_drop(self):
        desk = kept_desk(a=[path(2)], b=[])
        check_kinds(self, desk.say("drop b"), "ok")
        self.assertEqual(desk.say("names"), "a")
        self.check_no_name(desk, "b", "drop b")
        self.check_no_name(desk, "b", "show b")
        desk.say("drop a")
        self.assertEqual(desk.say("names"), "-")

    def test_undo(self):
        desk = Desk()
        self.check_refused(desk, NoDeed, "undo")
        states = [state(desk)]
        for row in ("keep a 2 0-1", "keep b none", "times a a a", "times c a b a", "drop b", "keep a 3", "times b c",
                    "drop a", "keep a 3", "keep a 3", "times a a", "drop c"):
            check_kinds(self, desk.say(row), "ok")
            states.append(state(desk))
        for awaited in states[-2::-1]:
            desk.say("names")
            check_kinds(self, desk.say("undo"), "ok")
            self.assertEqual(state(desk), awaited)
        for _ in range(2):
            self.check_refused(desk, NoDeed, "undo")
        desk.say("keep a 1")
        desk.say("undo")
        self.check_refused(desk, NoDeed, "undo")

    def test_what_is_refused_or_asked_is_not_undone(self):
        desk = kept_desk(a=[path(2)], b=[bare(2)])
        for row in (
            "keep a 2 1-0", "keep a", "times a x", "drop x", "factors b", "names now", "many b", "far a 3 3", "x",
            "times c a a a a a a a a a a a a a",
        ):
            with self.assertRaises((NoText, NoLine, NoName, Apart, NoPlace, TooBig)):
                desk.say(row)
        for row in ("names", "show a", "places a", "factors a", "alike a a", "far a 0 1"):
            desk.say(row)
        desk.say("undo")
        self.assertEqual(state(desk), {"a": "2 0-1"})
        desk.say("undo")
        self.assertEqual(state(desk), {})

    def test_many_deeds(self):
        for seed in range(6):
            chance = random.Random(seed)
            desk, states = Desk(), [{}]
            for _ in range(200):
                kept = dict(states[-1])
                word = chance.choice(["keep", "keep", "times", "times", "drop", "undo"])
                names = [chance.choice("abcd") for _ in range(chance.randrange(2, 5))]
                if word == "undo":
                    if len(states) == 1:
                        self.check_refused(desk, NoDeed, "undo")
                    else:
                        states.pop()
                        desk.say("undo")
                elif word == "keep":
                    kept[names[0]] = [chance.choice([path(2), path(3), bare(1)]) for _ in range(chance.randrange(4))]
                    desk.say(f"keep {names[0]} {show_webs(kept[names[0]])}")
                    states.append(kept)
                elif word == "drop" and names[0] not in kept:
                    self.check_no_name(desk, names[0], "drop " + names[0])
                elif word == "drop":
                    del kept[names[0]]
                    desk.say("drop " + names[0])
                    states.append(kept)
                else:
                    row = "times " + " ".join(names)
                    missing = [name for name in names[1:] if name not in kept]
                    webs = [web for name in names[1:] for web in kept.get(name, [])]
                    if missing:
                        self.check_no_name(desk, missing[0], row)
                    elif len(webs) > 12:
                        self.check_refused(desk, TooBig, row)
                    else:
                        desk.say(row)
                        kept[names[0]] = webs
                        states.append(kept)
                self.assertEqual(state(desk), {name: show_webs(webs) for name, webs in states[-1].items()})

    def test_desks_are_apart(self):
        one, other = Desk(), Desk()
        one.say("keep a 1")
        self.assertEqual(other.say("names"), "-")
        self.check_refused(other, NoDeed, "undo")


class Answers(Refusing):
    def test_names(self):
        desk = Desk()
        check_kinds(self, desk.say("names"), "-")
        for name in ("b", "a", "zz", "az", "abcdefgh"):
            desk.say("keep " + name + " none")
        check_kinds(self, desk.say("names"), "a abcdefgh az b zz")

    def test_places_and_ties(self):
        for webs in WEBS_LISTS + [[path(40)] * 12]:
            desk = kept_desk(a=webs)
            check_kinds(self, desk.say("places a"), str(places_of(webs)))
            check_kinds(self, desk.say("ties a"), str(ties_of(webs)))
        desk = kept_desk(a=[])
        self.assertEqual((desk.say("places a"), desk.say("ties a")), ("1", "0"))

    def test_far_and_ways(self):
        chance = random.Random(1)
        for webs in WEBS_LISTS + [[path(40)] * 12, [IN_PIECES, ring(4)]]:
            desk = kept_desk(a=webs)
            for _ in range(8):
                one, other = [[chance.randrange(many) for many, _ in webs] for _ in range(2)]
                rows = f"a {written_row(one)} {written_row(other)}"
                steps = far(webs, one, other)
                check_kinds(self, desk.say("far " + rows), "-" if steps is None else str(steps))
                check_kinds(self, desk.say("ways " + rows), str(ways_many(webs, one, other)))
        desk = kept_desk(a=[], b=[bare(2)], c=[path(40)])
        self.assertEqual((desk.say("far a - -"), desk.say("ways a - -")), ("0", "1"))
        self.assertEqual((desk.say("far b 0 1"), desk.say("ways b 0 1")), ("-", "0"))
        self.assertEqual((desk.say("far c 0 39"), desk.say("ways c 39 10")), ("39", "1"))
        many = str(math.factorial(468) // math.factorial(39) ** 12)
        desk.say("times d" + " c" * 12)
        self.assertEqual(desk.say("ways d 0,0,0,0,0,0,0,0,0,0,0,0 39,39,39,39,39,39,39,39,39,39,39,39"), many)

    def test_factors_and_prime(self):
        lists = [
            [], [bare(1)], [path(2)], [LADDER], [SQUARE, petersen()], [path(3), path(2)], [many_ties()],
            [bare(1), path(3)],
        ]
        for webs in lists + [[path(2)] * 12, [SQUARE] * 6]:
            desk = kept_desk(a=webs)
            check_kinds(self, desk.say("factors a"), show_webs(primes_of(webs)))
            check_kinds(self, desk.say("prime a"), "yes" if len(primes_of(webs)) == 1 else "no")
        desk = kept_desk(a=[], b=[bare(1)], c=[path(2)], d=[SQUARE])
        self.assertEqual([desk.say("factors " + name) for name in "abcd"], ["none", "none", "2 0-1", "2 0-1 * 2 0-1"])
        self.assertEqual([desk.say("prime " + name) for name in "abcd"], ["no", "no", "yes", "no"])

    def test_more_than_twelve_primes(self):
        desk = kept_desk(a=[SQUARE] * 6 + [path(3)], b=[SQUARE] * 6)
        self.check_refused(desk, TooBig, "factors a")
        self.assertEqual(desk.say("prime a"), "no")
        self.assertEqual(desk.say("factors b"), show_webs([path(2)] * 12))

    def test_many(self):
        for webs in ([], [bare(1)], [path(2)], [SQUARE, LADDER], [full(7)] * 12, [ring(5), star(4)]):
            check_kinds(self, kept_desk(a=webs).say("many a"), str(kept_many(webs)))
        for webs in ([petersen()], [path(2), path(8)]):
            self.check_refused(kept_desk(a=webs), TooBig, "many a")

    def test_alike(self):
        lists = {
            "a": [SQUARE], "b": [path(2), path(2)], "c": [path(2)], "d": [LADDER], "e": [star(3), path(2)], "f": [],
        }
        desk = kept_desk(**lists)
        for one, ones in lists.items():
            for other, others in lists.items():
                awaited = "yes" if alike_products(ones, others) else "no"
                check_kinds(self, desk.say(f"alike {one} {other}"), awaited)
        self.assertEqual((desk.say("alike a b"), desk.say("alike d e"), desk.say("alike a c")), ("yes", "yes", "no"))
        desk = kept_desk(a=[petersen()], b=[path(2)])
        for row in ("alike a b", "alike b a", "alike a a"):
            self.check_refused(desk, TooBig, row)


class NoLines(Refusing):
    def setUp(self):
        self.desk = kept_desk(a=[path(2)], b=[path(3)], c=[bare(2), path(8)], d=[])

    def test_anything(self):
        for thing in [thing for thing in ODD if not isinstance(thing, str)] + [b"names", ["names"], ("names",), 1]:
            self.check_refused(self.desk, NoLine, thing)

    def test_no_such_words(self):
        for row in (
            "", " ", "x", "a", "keeps a 1", "Keep a 1", "KEEP a 1", "show", "shows a", "name", "name s", "names\n",
            "undo\t", "\nnames", "places", "primes a", "undos", "-", "ok", "none", "keep", "keep ", "keep  ", "times",
            "drop", "alike", "far", "ways", "factors", "prime", "many", "ties", "show\ta", "say a", "put a 0 1",
        ):
            self.check_refused(self.desk, NoLine, row)

    def test_a_word_too_few_or_too_many(self):
        rows = [
            "undo", "names", "drop a", "show a", "places a", "ties a", "factors a", "prime a", "many a", "alike a b",
            "far a 0 1", "ways a 0 1",
        ]
        for row in rows:
            for more in (" a", " 0", " -", " ", "  ", " x y"):
                self.check_refused(self.desk, NoLine, row + more)
            words = row.split(" ")
            if len(words) > 1:
                self.check_refused(self.desk, NoLine, " ".join(words[:-1]))
                self.check_refused(self.desk, NoLine, " ".join(words[:-1]) + " ")
            self.check_refused(self.desk, NoLine, " " + row)
        for row in ("times", "times a", "times ", "times a ", "times  a", "times a b ", "times a  b", "times a b  c"):
            self.check_refused(self.desk, NoLine, row)

    def test_two_blanks(self):
        for row in (
            "show  a", "far a  0 1", "far a 0  1", "far  a 0 1", "alike a  b", "keep  a 1", "keep  1", "drop  a",
        ):
            self.check_refused(self.desk, NoLine, row)

    def test_keep_without_a_blank(self):
        for row in ("keep a", "keep x", "keep abcdefgh", "keep", "keepa 1", "keep "):
            self.check_refused(self.desk, NoLine, row)

    def test_no_names(self):
        for name in NO_NAMES:
            for row in (
                "keep {} 1", "keep {} ", "keep {} x", "times {} a", "times a {}", "times x y {}", "drop {}", "show {}",
                "places {}", "ties {}", "far {} 0 1", "ways {} 0 1", "factors {}", "prime {}", "many {}", "alike {} a",
                "alike a {}", "alike x {}",
            ):
                self.check_refused(self.desk, NoLine, row.format(name))

    def test_no_rows(self):
        for row in NO_ROWS_OF_WORDS:
            for word in ("far", "ways"):
                for name in ("a", "b", "x", "d"):
                    self.check_refused(self.desk, NoLine, f"{word} {name} {row} 0")
                    self.check_refused(self.desk, NoLine, f"{word} {name} 0 {row}")
                    self.check_refused(self.desk, NoLine, f"{word} {name} 9999 {row}")


class OtherRefusals(Refusing):
    def setUp(self):
        self.desk = kept_desk(a=[path(2)], b=[path(3), ring(4)], c=[bare(2)], d=[path(8)], e=[path(8), bare(2)], f=[])

    def test_no_name(self):
        for row in (
            "drop x", "show x", "places x", "ties x", "factors x", "prime x", "many x", "far x 0 1", "ways x 0 1",
            "alike x a", "alike a x", "alike x y", "alike x x", "times a x", "times x x", "times a a x", "times y x",
            "times a b x a", "times x x y", "times a x y", "times a a x x",
        ):
            self.check_no_name(self.desk, "x", row)
        # Ahead of NoPlace, Apart and TooBig.
        for row in ("far x 9 -", "alike c x", "alike d x", "times a" + " b" * 7 + " x", "alike x d", "ways x - 0"):
            self.check_no_name(self.desk, "x", row)
        self.desk.say("drop a")
        self.check_no_name(self.desk, "a", "show a")
        self.check_no_name(self.desk, "a", "times a a")

    def test_no_text(self):
        for text in NO_TEXTS:
            if text not in ("none", "2 0-1 * 2", "2 * 2"):
                for name in ("a", "x"):
                    error = self.check_refused(self.desk, NoText, f"keep {name} {text}")
                    self.assertIsInstance(error.part, int)
        for text, part in [
            ("", 0), (" 1", 0), ("1 * x", 1), (" * ".join(["1"] * 13), 12), ("1 * 2 1-0 * y", 1), ("1 * ", 1),
        ]:
            self.assertEqual(self.check_refused(self.desk, NoText, "keep a " + text).part, part)
        self.assertEqual(self.desk.say("show a"), "2 0-1")

    def test_no_place(self):
        for rows in ("2 0", "0 2", "- 0", "0 -", "- -", "0,0 0", "0 0,0", "9999 0", "0 9999", "9999 9999"):
            for word in ("far", "ways"):
                self.check_refused(self.desk, NoPlace, f"{word} a {rows}")
        for rows in ("0,0 0", "0,4 0,0", "3,0 0,0", "0,0 0,4", "0 0", "0,0,0 0,0", "- 0,0", "0,0 -"):
            for word in ("far", "ways"):
                self.check_refused(self.desk, NoPlace, f"{word} b {rows}")
        for rows in ("0 -", "- 0", "0 0", "0,0 -"):
            for word in ("far", "ways"):
                self.check_refused(self.desk, NoPlace, f"{word} f {rows}")

    def test_apart_ahead_of_too_big(self):
        for row in (
            "factors c", "prime c", "many c", "alike c a", "alike a c", "many e", "alike e d", "alike d e", "alike d c",
        ):
            self.check_refused(self.desk, Apart, row)
        self.desk.say("keep g " + show_webs([SQUARE] * 11 + [bare(2)]))
        self.check_refused(self.desk, Apart, "factors g")
        for row in ("many d", "alike d a", "alike a d", "alike d d", "alike f d"):
            self.check_refused(self.desk, TooBig, row)
        self.assertEqual((self.desk.say("factors d"), self.desk.say("prime d")), (show_webs([path(8)]), "yes"))

    def test_by_name_and_methods(self):
        self.assertEqual(self.desk.say(row="names"), "a b c d e f")
        self.assertIn("say", vars(Desk))


if __name__ == "__main__":
    unittest.main()
