"""A desk: webs kept by names, asked by rows of words."""

from webtimes.counts import far, ways_many
from webtimes.errors import NoDeed, NoLine, NoName, TooBig
from webtimes.keeping import alike_products, kept_many, primes_of
from webtimes.rows import MOST_WEBS, count_rows, count_ties
from webtimes.texts import number_in, read_webs, written_webs

LETTERS = "abcdefghijklmnopqrstuvwxyz"
MOST_LETTERS = 8
MOST_ROW_FIGURES = 4
DONE = "ok"
NOTHING = "-"


def yes_or_no(truth):
    """Tell the word for the truth."""
    return "yes" if truth else "no"


def say_show(webs):
    """Tell the webs, written."""
    return written_webs(webs)


def say_primes(webs):
    """Tell the primes of the webs, written."""
    primes = primes_of(webs)
    if len(primes) > MOST_WEBS:
        raise TooBig("too many primes to be written")
    return written_webs(primes)


def say_prime(webs):
    """Tell whether there is just one prime."""
    return yes_or_no(len(primes_of(webs)) == 1)


def say_places(webs):
    """Tell how many rows there are."""
    return str(count_rows(webs))


def say_ties(webs):
    """Tell how many ties there are."""
    return str(count_ties(webs))


def say_many(webs):
    """Tell how many renamings the product has."""
    return str(kept_many(webs))


def say_far(webs, one, other):
    """Tell the distance of two rows."""
    steps = far(webs, one, other)
    return NOTHING if steps is None else str(steps)


def say_ways(webs, one, other):
    """Tell how many shortest ways lead from one row to another."""
    return str(ways_many(webs, one, other))


# What is asked of one name, and of one name and two rows.
OF_NAME = {
    "show": say_show, "places": say_places, "ties": say_ties, "factors": say_primes, "prime": say_prime,
    "many": say_many,
}
OF_ROWS = {"far": say_far, "ways": say_ways}


def look_at_words(fits):
    """Refuse a row of words that doesn't fit with NoLine."""
    if not fits:
        raise NoLine("no row of words that is told")


def is_name(word):
    """Tell whether the word is a name."""
    return 1 <= len(word) <= MOST_LETTERS and all([sign in LETTERS for sign in word])


def look_at_names(words):
    """Refuse words that aren't all names with NoLine."""
    look_at_words(all([is_name(word) for word in words]))


def row_in(word):
    """Tell the row that the word writes, or NoLine."""
    if word == NOTHING:
        return []
    row = [number_in(text, MOST_ROW_FIGURES) for text in word.split(",")]
    look_at_words(None not in row)
    return row


class Desk:
    """Webs by names, and what to undo."""

    def __init__(self):
        self._kept = {}
        self._past = []

    def _kept_by(self, name):
        """Tell the webs that the name keeps, or NoName."""
        if name not in self._kept:
            raise NoName(name)
        return self._kept[name]

    def _turn(self, name, webs):
        """Keep the webs by the name, or nothing where they are None."""
        if webs is None:
            del self._kept[name]
        else:
            self._kept[name] = webs

    def _deed(self, name, webs):
        """Keep the webs by the name, and what it kept for undo."""
        self._past.append((name, self._kept.get(name)))
        self._turn(name, webs)
        return DONE

    def _keep(self, told):
        """Keep by a name the webs that the text behind it writes."""
        name, blank, text = told.partition(" ")
        look_at_words(is_name(name) and blank == " ")
        return self._deed(name, read_webs(text))

    def _times(self, words):
        """Keep by the first name what the other ones keep, one behind the other."""
        look_at_words(len(words) >= 2)
        look_at_names(words)
        webs = []
        for name in words[1:]:
            webs = webs + self._kept_by(name)
        if len(webs) > MOST_WEBS:
            raise TooBig("too many webs to be kept by one name")
        return self._deed(words[0], webs)

    def _drop(self, words):
        """Keep nothing by the name any more."""
        look_at_words(len(words) == 1)
        look_at_names(words)
        self._kept_by(words[0])
        return self._deed(words[0], None)

    def _undo(self):
        """Undo the last deed that is not undone."""
        if not self._past:
            raise NoDeed("nothing to undo")
        name, webs = self._past.pop()
        self._turn(name, webs)
        return DONE

    def _alike(self, words):
        """Tell whether the products of what two names keep are alike."""
        look_at_words(len(words) == 2)
        look_at_names(words)
        return yes_or_no(alike_products(self._kept_by(words[0]), self._kept_by(words[1])))

    def _asked_of_name(self, word, words):
        """Answer what is asked of a name."""
        look_at_words(len(words) == 1)
        look_at_names(words)
        answer = OF_NAME[word]
        return answer(self._kept_by(words[0]))

    def _asked_of_rows(self, word, words):
        """Answer what is asked of a name and two rows."""
        look_at_words(len(words) == 3)
        look_at_names(words[:1])
        one = row_in(words[1])
        other = row_in(words[2])
        answer = OF_ROWS[word]
        return answer(self._kept_by(words[0]), one, other)

    def say(self, row):
        """Do what the row of words tells, or answer what it asks."""
        look_at_words(isinstance(row, str))
        word, _, told = row.partition(" ")
        words = row.split(" ")[1:]
        if word == "keep":
            return self._keep(told)
        if word == "times":
            return self._times(words)
        if word == "drop":
            return self._drop(words)
        if word == "alike":
            return self._alike(words)
        if word in OF_NAME:
            return self._asked_of_name(word, words)
        if word in OF_ROWS:
            return self._asked_of_rows(word, words)
        look_at_words(row in ("undo", "names"))
        if row == "undo":
            return self._undo()
        return " ".join(sorted(list(self._kept.keys()))) if self._kept else NOTHING
