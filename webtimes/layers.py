"""Directions, layers and gates of a factoring, and factorings gathered by groups."""

from webtimes.products import multiplied
from webtimes.rows import row_number


def direction(factoring, one, other):
    """Tell the number of the web in which the rows of two tied places are unlike."""
    rows = factoring[1]
    at = 0
    while rows[one][at] == rows[other][at]:
        at += 1
    return at


def place_with(factoring, row):
    """Tell the place that has the row."""
    return factoring[1].index(row)


def exchanged(row, number, place):
    """Tell the row with another place in one direction."""
    return row[:number] + [place] + row[number + 1:]


def layer(factoring, place, number):
    """Tell the places whose rows are the place's but in the direction, in its order."""
    webs, rows = factoring
    return [place_with(factoring, exchanged(rows[place], number, at)) for at in range(webs[number][0])]


def gate(factoring, place, other, number):
    """Tell the place of the layer through the other that is, in the direction, as the place."""
    rows = factoring[1]
    return place_with(factoring, exchanged(rows[other], number, rows[place][number]))


def gathered(factoring, groups):
    """Tell the factoring whose webs are the products of the webs of each group."""
    webs, rows = factoring
    chosen = [[webs[number] for number in group] for group in groups]
    factors = [multiplied(choice) for choice in chosen]
    factor_rows = []
    for row in rows:
        parts = [[row[number] for number in group] for group in groups]
        factor_rows.append([row_number(choice, part) for choice, part in zip(chosen, parts)])
    return (factors, factor_rows)
