"""Like factors of a web."""

from webtimes.alike import naming_between
from webtimes.factors import told_factoring
from webtimes.ways import look_at_hanging


def like_from(webs, first):
    """Tell the numbers, from the first on, of the webs that are alike to it, with a naming from it to each."""
    like = [(first, list(range(webs[first][0])))]
    for number in range(first + 1, len(webs)):
        naming = naming_between(webs[first], webs[number])
        if naming is not None:
            like.append((number, naming))
    return like


def like_lists(webs):
    """Tell lists of the numbers of webs that are alike, with namings from the first of each list."""
    seen = set()
    lists = []
    for first in range(len(webs)):
        if first not in seen:
            like = like_from(webs, first)
            for number, _ in like:
                seen.add(number)
            lists.append(like)
    return lists


def like_factors(web):
    """Tell the lists of the told factors that are alike, with namings from the first of each list."""
    look_at_hanging(web)
    # Two like factors of one web have at most 6 places, as a web has at most 40.
    return like_lists(told_factoring(web)[0])
