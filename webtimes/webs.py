"""What a web is, and which of its places are tied."""

from webtimes.errors import NoPlace, NoWeb

MOST_PLACES = 40
MOST_TIES = 120


def is_whole(thing):
    """Tell whether the thing is an int that is no truth."""
    return isinstance(thing, int) and not isinstance(thing, bool)


def is_place(many, thing):
    """Tell of anything whether it is one of so many places."""
    return is_whole(thing) and 0 <= thing < many


def joins_places(many, thing):
    """Tell of anything whether it is a tuple of two of so many places, the lesser ahead."""
    if not isinstance(thing, tuple) or len(thing) != 2:
        return False
    one, other = thing
    return is_whole(one) and is_whole(other) and 0 <= one < other < many


def web_fault(thing):
    """Tell None of a web, else the part and the number with which NoWeb refuses it."""
    if not isinstance(thing, tuple) or len(thing) != 2:
        return ("web", None)
    many, ties = thing
    if not is_whole(many) or not 1 <= many <= MOST_PLACES:
        return ("places", None)
    if not isinstance(ties, list) or len(ties) > MOST_TIES:
        return ("ties", None)
    for at, tie in enumerate(ties):
        if not joins_places(many, tie) or (at > 0 and tie <= ties[at - 1]):
            return ("ties", at)
    return None


def look_at_web(thing):
    """Refuse what is no web with NoWeb."""
    fault = web_fault(thing)
    if fault is not None:
        part, number = fault
        raise NoWeb(part, number)


def look_at_place(web, thing):
    """Refuse what is no place of the web with NoPlace."""
    if not is_place(web[0], thing):
        raise NoPlace("no place of the web")


def as_tie(one, other):
    """Tell the tuple of two unlike places, the lesser ahead."""
    return (min(one, other), max(one, other))


def is_tie(web, thing):
    """Tell of anything whether it is a tuple of the web's list of ties."""
    # Looked at ahead of `in`, to which a truth or 1.0 would be as good as 1.
    return joins_places(web[0], thing) and thing in web[1]


def look_at_tie(web, thing):
    """Refuse what is no tie of the web with NoPlace."""
    if not is_tie(web, thing):
        raise NoPlace("no tie of the web")


def beside_all(web):
    """Tell for each place of a web the places tied to it, rising."""
    many, ties = web
    beside = [[] for _ in range(many)]
    # The ties rise, so each list gets its lesser places first, and all of them rising.
    for one, other in ties:
        beside[one].append(other)
        beside[other].append(one)
    return beside


def is_tied(web, one, other):
    """Tell whether two places of the web are tied."""
    look_at_web(web)
    look_at_place(web, one)
    look_at_place(web, other)
    return as_tie(one, other) in web[1]


def neighbours(web, place):
    """Tell the places tied to the place, rising."""
    look_at_web(web)
    look_at_place(web, place)
    return beside_all(web)[place]
