"""The finest layout of a web, and by what any other one is laid."""

from webtimes.layers import direction
from webtimes.linked import far_bits, joined, lists_by
from webtimes.ways import look_at_hanging, pieces_by
from webtimes.webs import as_tie, beside_all


def far_classes(web):
    """Tell the lists of ties that links with the word `far` hang, of a web that hangs together."""
    ties = web[1]
    return lists_by(ties, joined(far_bits(beside_all(web), ties))[1])


def piece_numbers(beside):
    """Tell for each place the number of its piece, from the lists of places tied to each."""
    numbers = [0 for _ in beside]
    for number, piece in enumerate(pieces_by(beside)):
        for place in piece:
            numbers[place] = number
    return numbers


def finest(web):
    """Tell the finest layout of the web: a web for each far class."""
    look_at_hanging(web)
    many, ties = web
    webs = []
    columns = []
    for own_ties in far_classes(web):
        own = {tie: True for tie in own_ties}
        column = piece_numbers(beside_all((many, [tie for tie in ties if tie not in own])))
        webs.append((max(column) + 1, sorted({as_tie(column[one], column[other]) for one, other in own_ties})))
        columns.append(column)
    return (webs, [[column[place] for column in columns] for place in range(many)])


def laid_by(web, layout):
    """Tell for each web of the layout the numbers of the webs of the finest layout of which it is made."""
    look_at_hanging(web)
    # All ties of a far class are unlike in one web of the layout: so the first one tells it.
    toward = [direction(layout, ties[0][0], ties[0][1]) for ties in far_classes(web)]
    return [[number for number, at in enumerate(toward) if at == own] for own in range(len(layout[0]))]
