"""How any factoring of a web is made of the told one."""

from webtimes.classes import hanging
from webtimes.factors import factored_by
from webtimes.layers import direction, layer
from webtimes.ways import look_at_hanging


def grouped(web, factoring):
    """Tell for each web of the factoring the numbers of its told factors, and its places' rows of them."""
    look_at_hanging(web)
    lists = hanging(web)[1]
    told_rows = factored_by(web, lists)[1]
    # All ties of a class have one direction: so the first one tells it.
    directions = [direction(factoring, ties[0][0], ties[0][1]) for ties in lists]
    groups = []
    for at in range(len(factoring[0])):
        numbers = [number for number, toward in enumerate(directions) if toward == at]
        rows = [[told_rows[place][number] for number in numbers] for place in layer(factoring, 0, at)]
        groups.append((numbers, rows))
    return groups
