"""The told factoring of a web, by its classes, and what tells it prime or parted."""

from webtimes.chains import hung_by
from webtimes.classes import hanging_links
from webtimes.ways import look_at_hanging, pieces, within


def column_by(many, places, ties):
    """Tell for each place the number of the only one of these places from which the ties lead to it."""
    column = [0 for _ in range(many)]
    for piece in pieces((many, ties)):
        number = [at for at, place in enumerate(places) if place in piece][0]
        for place in piece:
            column[place] = number
    return column


def factored_by(web, lists):
    """Tell the factoring of a web that has a web for each of its classes."""
    many, ties = web
    factors = []
    columns = []
    for own_ties in lists:
        # The piece with place 0 is the first one.
        places = pieces((many, own_ties))[0]
        factors.append(within(web, places))
        columns.append(column_by(many, places, [tie for tie in ties if tie not in own_ties]))
    return (factors, [[column[place] for column in columns] for place in range(many)])


def told_factoring(web):
    """Tell the told factoring of a web that hangs together."""
    return factored_by(web, hung_by(web[1], hanging_links(web)))


def factored(web):
    """Tell the told factoring of the web."""
    look_at_hanging(web)
    return told_factoring(web)


def is_prime(web):
    """Tell whether the web has two or more places and no factoring of several webs."""
    look_at_hanging(web)
    return len(hung_by(web[1], hanging_links(web))) == 1


def prime_or_parted(web):
    """Tell one place alone, or links that show the web prime, or its told factoring."""
    look_at_hanging(web)
    links = hanging_links(web)
    lists = hung_by(web[1], links)
    if not lists:
        return ("one",)
    if len(lists) == 1:
        return ("prime", links)
    return ("parted", factored_by(web, lists))
