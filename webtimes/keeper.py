"""A keeper of webs, which stands on a row of them."""

from webtimes.counts import count_by_distance, far_apart
from webtimes.errors import NoDeed, NoPlace, TooBig
from webtimes.keeping import all_primes
from webtimes.rows import MOST_WEBS, are_tied, count_rows, count_ties, look_at_row, look_at_webs, tied_rows
from webtimes.texts import written_webs
from webtimes.ways import refuse_apart
from webtimes.webs import MOST_TIES, as_tie, is_place, look_at_place, look_at_web


def copied(web):
    """Tell the web with a list of its own."""
    many, ties = web
    return (many, list(ties))


def look_at_number(many, thing):
    """Refuse what is no number of so many with NoPlace."""
    if not is_place(many, thing):
        raise NoPlace("no number of a web of the keeper")


class Keeper:
    """Webs, a row of them, and what to undo."""

    def __init__(self, webs):
        look_at_webs(webs)
        self._webs = [copied(web) for web in webs]
        self._row = [0 for _ in webs]
        self._past = []

    def __eq__(self, other):
        return isinstance(other, Keeper) and self._webs == other._webs and self._row == other._row

    def __len__(self):
        return len(self._webs)

    def __repr__(self):
        return f"Keeper: {written_webs(self._webs)}"

    def __str__(self):
        return repr(self)

    def _turn_to(self, webs, row):
        """Keep these in the stead of what is kept, and that for undo."""
        # No list is changed when it is kept: so what is kept for undo may share them.
        self._past.append((self._webs, self._row))
        self._webs = webs
        self._row = row

    def put(self, number, web):
        """Put a web ahead of the one with the number, or behind all."""
        look_at_web(web)
        look_at_number(len(self._webs) + 1, number)
        if len(self._webs) == MOST_WEBS:
            raise TooBig("a web more than there may be")
        webs = self._webs[:number] + [copied(web)] + self._webs[number:]
        self._turn_to(webs, self._row[:number] + [0] + self._row[number:])

    def take(self, number):
        """Tell the web of the number, and take it away."""
        look_at_number(len(self._webs), number)
        web = self._webs[number]
        webs = self._webs[:number] + self._webs[number + 1:]
        self._turn_to(webs, self._row[:number] + self._row[number + 1:])
        return copied(web)

    def flip(self, number, one, other):
        """Tie two places of a web, or no longer, and tell whether they are tied now."""
        look_at_number(len(self._webs), number)
        web = self._webs[number]
        look_at_place(web, one)
        look_at_place(web, other)
        if one == other:
            raise NoPlace("one place twice")
        many, ties = web
        tie = as_tie(one, other)
        tied = tie not in ties
        if tied and len(ties) == MOST_TIES:
            raise TooBig("a tie more than there may be")
        left = [own for own in ties if own != tie]
        turned = (many, sorted(left + [tie]) if tied else left)
        self._turn_to(self._webs[:number] + [turned] + self._webs[number + 1:], self._row)
        return tied

    def go(self, row):
        """Go to a row tied to the one on which it stands."""
        look_at_row(self._webs, row)
        if not are_tied(self._webs, self._row, row):
            raise NoPlace("no row tied to that of the keeper")
        self._turn_to(self._webs, list(row))

    def undo(self):
        """Undo the last deed that is not undone."""
        if not self._past:
            raise NoDeed("nothing to undo")
        self._webs, self._row = self._past.pop()

    def webs(self):
        """Tell the webs."""
        return [copied(web) for web in self._webs]

    def stand(self):
        """Tell the row on which it stands."""
        return list(self._row)

    def places(self):
        """Tell how many rows the product has."""
        return count_rows(self._webs)

    def ties(self):
        """Tell how many ties the product has."""
        return count_ties(self._webs)

    def far_from(self, row):
        """Tell the distance of the row from the one on which it stands, None where there is none."""
        look_at_row(self._webs, row)
        return far_apart(self._webs, self._row, row)

    def beside(self):
        """Tell all rows tied to the one on which it stands, sorted."""
        return tied_rows(self._webs, self._row)

    def by_distance(self):
        """Tell how many rows are at each distance from the one on which it stands."""
        return count_by_distance(self._webs, self._row)

    def primes(self):
        """Tell the primes of the webs."""
        refuse_apart(self._webs)
        return all_primes(self._webs)
