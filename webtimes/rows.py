"""Rows of webs: their numbers, and which of them are tied."""

from webtimes.errors import NoPlace, NoWebs
from webtimes.webs import as_tie, beside_all, is_place, web_fault

MOST_WEBS = 12


def look_at_webs(thing):
    """Refuse what is no list of webs with NoWebs."""
    if not isinstance(thing, list) or len(thing) > MOST_WEBS:
        raise NoWebs(None)
    for at, web in enumerate(thing):
        if web_fault(web) is not None:
            raise NoWebs(at)


# The following seven look at no webs, and so do for lists of more than twelve, too.


def makes_row(webs, thing):
    """Tell of anything whether it is a list with a place of each web."""
    if not isinstance(thing, list) or len(thing) != len(webs):
        return False
    return all([is_place(web[0], place) for web, place in zip(webs, thing)])


def count_rows(webs):
    """Tell how many rows there are."""
    many = 1
    for web in webs:
        many = many * web[0]
    return many


def count_ties(webs):
    """Tell how many pairs of rows are tied."""
    rows = 1
    ties = 0
    for many, here in webs:
        # A tie of rows stands still in the webs so far, or in this one.
        ties = ties * many + rows * len(here)
        rows = rows * many
    return ties


def row_number(webs, row):
    """Tell the number of a row in the order of lists."""
    number = 0
    for web, place in zip(webs, row):
        number = number * web[0] + place
    return number


def numbered_row(webs, number):
    """Tell the row that has the number."""
    row = []
    for web in reversed(webs):
        row.append(number % web[0])
        number = number // web[0]
    return row[::-1]


def are_tied(webs, one, other):
    """Tell whether two rows are unlike in one web alone, and tied there."""
    unlike = [at for at in range(len(webs)) if one[at] != other[at]]
    if len(unlike) != 1:
        return False
    at = unlike[0]
    return as_tie(one[at], other[at]) in webs[at][1]


def tied_rows(webs, row):
    """Tell all rows tied to a row, sorted."""
    found = []
    for at, web in enumerate(webs):
        for place in beside_all(web)[row[at]]:
            found.append(row[:at] + [place] + row[at + 1:])
    return sorted(found)


def look_at_row(webs, thing):
    """Refuse what is no row of the webs with NoPlace."""
    if not makes_row(webs, thing):
        raise NoPlace("no row of the webs")


def is_row(webs, thing):
    """Tell of anything whether it is a row of the webs."""
    look_at_webs(webs)
    return makes_row(webs, thing)


def places_of(webs):
    """Tell how many rows the webs have."""
    look_at_webs(webs)
    return count_rows(webs)


def ties_of(webs):
    """Tell how many pairs of tied rows the webs have."""
    look_at_webs(webs)
    return count_ties(webs)


def number_of(webs, row):
    """Tell the number of the row."""
    look_at_webs(webs)
    look_at_row(webs, row)
    return row_number(webs, row)


def row_of(webs, number):
    """Tell the row of the number."""
    look_at_webs(webs)
    if not is_place(count_rows(webs), number):
        raise NoPlace("no number of a row of the webs")
    return numbered_row(webs, number)


def rows_tied(webs, one, other):
    """Tell whether the two rows are tied."""
    look_at_webs(webs)
    look_at_row(webs, one)
    look_at_row(webs, other)
    return are_tied(webs, one, other)


def rows_beside(webs, row):
    """Tell all rows tied to the row, sorted."""
    look_at_webs(webs)
    look_at_row(webs, row)
    return tied_rows(webs, row)
