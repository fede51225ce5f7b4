"""The finest layout of a web, and by what any other one is laid."""

from webtimes.chains import hung_by
from webtimes.layers import direction
from webtimes.links import far_linked
from webtimes.ways import far_table, look_at_hanging, pieces
from webtimes.webs import as_tie, beside_all


def far_classes(web):
    """Tell the lists of ties that links with the word `far` hang."""
    ties = web[1]
    far = far_table(beside_all(web))
    pairs = [(tie, other) for at, tie in enumerate(ties) for other in ties[:at]]
    return hung_by(ties, [("far", tie, other) for tie, other in pairs if far_linked(far, tie, other)])


def piece_numbers(many, ties):
    """Tell for each of so many places the number of its piece by these ties."""
    numbers = [0 for _ in range(many)]
    for number, piece in enumerate(pieces((many, ties))):
        for place in piece:
            numbers[place] = number
    return numbers


def finest(web):
    """Tell the finest layout of the web: a web for each far class."""
    look_at_hanging(web)
    many, ties = web
    webs = []
    columns = []
    for own_ties in far_classes(web):
        column = piece_numbers(many, [tie for tie in ties if tie not in own_ties])
        webs.append((max(column) + 1, sorted({as_tie(column[one], column[other]) for one, other in own_ties})))
        columns.append(column)
    return (webs, [[column[place] for column in columns] for place in range(many)])


def laid_by(web, layout):
    """Tell for each web of the layout the numbers of the webs of the finest layout of which it is made."""
    look_at_hanging(web)
    # All ties of a far class are unlike in one web of the layout: so the first one tells it.
    toward = [direction(layout, ties[0][0], ties[0][1]) for ties in far_classes(web)]
    return [[number for number, at in enumerate(toward) if at == own] for own in range(len(layout[0]))]
