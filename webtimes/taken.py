"""What is left of a naming where one and the same web is taken away on both sides."""

from webtimes.factorings import side_by_side
from webtimes.factors import told_factoring
from webtimes.namings import behind, look_at_naming
from webtimes.parts import joined_by, parts_by
from webtimes.products import multiplied
from webtimes.ways import look_at_all_hanging


def parts_without(many, parts):
    """Tell the parts between the first so many webs of each side, where the webs behind them are the same."""
    turn, namings = parts
    ends = []
    ways = []
    for number in range(many):
        end = turn[number]
        way = namings[number]
        # Where it leads to a web that both sides have, that web leads on; no two ever come to the same.
        while end >= many:
            way = behind(way, namings[end])
            end = turn[end]
        ends.append(end)
        ways.append(way)
    return (ends, ways)


def cancelled(one, other, third, naming):
    """Tell a naming from the first to the second, from one between their products with the third."""
    look_at_all_hanging([one, other, third])
    look_at_naming(multiplied([one, third]), multiplied([other, third]), naming)
    first = told_factoring(one)
    second = told_factoring(other)
    same = told_factoring(third)
    parts = parts_by(side_by_side([first, same]), side_by_side([second, same]), naming)
    return joined_by(first, second, parts_without(len(first[0]), parts))
