"""Namings in parts: where they lead each told factor, and how."""

from webtimes.errors import NoNaming
from webtimes.factors import told_factoring
from webtimes.layers import direction, layer, place_with
from webtimes.namings import has_each_place, look_at_naming, makes_naming
from webtimes.ways import look_at_all_hanging


# The two factorings may be any of prime webs alone: a naming leads the webs of the one to those of the other.


def parts_by(first, second, naming):
    """Tell the parts of a naming between two webs that have these factorings."""
    webs = first[0]
    rows = second[1]
    turn = []
    namings = []
    for number, web in enumerate(webs):
        places = [naming[place] for place in layer(first, 0, number)]
        one, other = web[1][0]
        toward = direction(second, places[one], places[other])
        turn.append(toward)
        namings.append([rows[place][toward] for place in places])
    return (turn, namings)


def joined_by(first, second, parts):
    """Tell the naming with these parts between two webs that have these factorings."""
    turn, namings = parts
    naming = []
    for row in first[1]:
        led = [0 for _ in row]
        for toward, part, place in zip(turn, namings, row):
            led[toward] = part[place]
        naming.append(place_with(second, led))
    return naming


def makes_parts(ones, others, thing):
    """Tell of anything whether it leads the one webs to the others, each by a naming."""
    if not isinstance(thing, tuple) or len(thing) != 2:
        return False
    turn, namings = thing
    if len(ones) != len(others) or not has_each_place(len(ones), turn):
        return False
    if not isinstance(namings, list) or len(namings) != len(ones):
        return False
    return all([makes_naming(web, others[toward], part) for web, toward, part in zip(ones, turn, namings)])


def parted_naming(one, other, naming):
    """Tell the naming in parts: the number of the factor to which each leads, and the naming to it."""
    look_at_all_hanging([one, other])
    look_at_naming(one, other, naming)
    return parts_by(told_factoring(one), told_factoring(other), naming)


def joined_naming(one, other, parts):
    """Tell the naming that has these parts."""
    look_at_all_hanging([one, other])
    first = told_factoring(one)
    second = told_factoring(other)
    if not makes_parts(first[0], second[0], parts):
        raise NoNaming("no parts of a naming between the two webs")
    return joined_by(first, second, parts)
