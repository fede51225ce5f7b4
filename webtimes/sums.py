"""Sums: terms of powers, each so many times."""

from webtimes.errors import NoDivisor, NoSum, TooBig
from webtimes.webs import is_whole

MOST_KINDS = 4
MOST_TERMS = 48
MOST_POWER = 24


def are_powers(kinds, thing):
    """Tell of anything whether it is a tuple of so many powers."""
    if not isinstance(thing, tuple) or len(thing) != kinds:
        return False
    return all([is_whole(power) and 0 <= power <= MOST_POWER for power in thing])


def is_term(kinds, thing):
    """Tell of anything whether it is a term of so many kinds."""
    if not isinstance(thing, tuple) or len(thing) != 2:
        return False
    powers, many = thing
    return are_powers(kinds, powers) and is_whole(many) and many >= 1


def are_terms(kinds, thing):
    """Tell of anything whether it is a list of terms of so many kinds, rising by their powers."""
    if not isinstance(thing, list) or len(thing) > MOST_TERMS:
        return False
    if not all([is_term(kinds, term) for term in thing]):
        return False
    return all([thing[at - 1][0] < thing[at][0] for at in range(1, len(thing))])


def without(many_by, powers, many, terms):
    """Tell what is left by powers when these terms, each by these powers and that many, are taken away, or None."""
    left = {own: many_by[own] for own in many_by}
    for own_powers, own_many in terms:
        key = tuple([one + other for one, other in zip(powers, own_powers)])
        rest = left.get(key, 0) - many * own_many
        if rest < 0:
            return None
        left[key] = rest
        if rest == 0:
            del left[key]
    return left


def quotient_of(terms, divisor):
    """Tell by powers what multiplied by the divisor's terms comes to the terms, or None."""
    left = {powers: many for powers, many in terms}
    found = {}
    last_powers, last_many = divisor[-1]
    while left:
        # The last terms of two sums, multiplied, are the last term of their product.
        highest = max(list(left.keys()))
        powers = tuple([one - other for one, other in zip(highest, last_powers)])
        many = left[highest] // last_many
        if min(powers) < 0 or many * last_many != left[highest]:
            return None
        left = without(left, powers, many, divisor)
        if left is None:
            return None
        found[powers] = many
    return found


class Sum:
    """Terms by their powers; it never changes."""

    def __init__(self, terms, kinds=1):
        if not is_whole(kinds) or not 1 <= kinds <= MOST_KINDS or not are_terms(kinds, terms):
            raise NoSum("no terms of a sum of so many kinds")
        self._terms = list(terms)
        self._kinds = kinds

    def __eq__(self, other):
        return isinstance(other, Sum) and self._kinds == other._kinds and self._terms == other._terms

    def __len__(self):
        return len(self._terms)

    def __repr__(self):
        return f"Sum({self._terms!r}, {self._kinds!r})"

    def __str__(self):
        return repr(self)

    def _look_at(self, other):
        """Refuse what is no sum of the same kinds with NoSum."""
        if not isinstance(other, Sum) or self._kinds != other._kinds:
            raise NoSum("no sum of the same kinds")

    def _made(self, many_by):
        """Tell the sum of the same kinds with these many by powers, or TooBig."""
        if len(many_by) > MOST_TERMS or any([max(powers) > MOST_POWER for powers in many_by]):
            raise TooBig("a sum of too many terms or too great powers")
        return Sum(sorted(many_by.items()), self._kinds)

    def terms(self):
        """Tell the terms."""
        return list(self._terms)

    def kinds(self):
        """Tell how many powers each term has."""
        return self._kinds

    def added(self, other):
        """Tell the sum of the terms of both."""
        self._look_at(other)
        many_by = {powers: many for powers, many in self._terms}
        for powers, many in other._terms:
            many_by[powers] = many_by.get(powers, 0) + many
        return self._made(many_by)

    def multiplied(self, other):
        """Tell the sum of each term multiplied by each."""
        self._look_at(other)
        many_by = {}
        for powers, many in self._terms:
            for other_powers, other_many in other._terms:
                key = tuple([one + two for one, two in zip(powers, other_powers)])
                many_by[key] = many_by.get(key, 0) + many * other_many
        return self._made(many_by)

    def divided(self, other):
        """Tell the sum that, multiplied by the other, is this one, or None."""
        self._look_at(other)
        if not other._terms:
            raise NoDivisor("a sum without terms")
        many_by = quotient_of(self._terms, other._terms)
        return None if many_by is None else self._made(many_by)
