"""Roots: webs whose power is alike to a web."""

from webtimes.factors import told_factoring
from webtimes.likeness import like_lists
from webtimes.parts import joined_by
from webtimes.products import multiplied
from webtimes.rows import numbered_row
from webtimes.ways import look_at_hanging


def shared_out(lists, times):
    """Tell parts that lead the factors of so many roots, one behind the other, to the told factors."""
    turn = []
    namings = []
    for at in range(times):
        for like in lists:
            share = len(like) // times
            for number, naming in like[at * share:(at + 1) * share]:
                turn.append(number)
                namings.append(naming)
    return (turn, namings)


def root_of(web, times=2):
    """Tell a root and a naming from its power to the web, or a factor that stands a wrong number of times."""
    look_at_hanging(web)
    told = told_factoring(web)
    lists = like_lists(told[0])
    factors = []
    for like in lists:
        first = like[0][0]
        if len(like) % times != 0:
            return ("none", first, len(like))
        factors.extend([told[0][first] for _ in range(len(like) // times)])
    # The power of the product is the product of the factors as many times over.
    raised = factors * times
    rows = [numbered_row(raised, number) for number in range(web[0])]
    return ("root", multiplied(factors), joined_by((raised, rows), told, shared_out(lists, times)))
