"""Whether two small webs are alike."""

from webtimes.errors import TooBig
from webtimes.webs import beside_all, look_at_web

MOST_ALIKE = 7


def goes_on(beside, other_beside, begun, place):
    """Tell whether a naming that is begun may lead its next place there."""
    at = len(begun)
    # Another number of ties would show later, too, but many more beginnings would be gone through.
    if place in begun or len(beside[at]) != len(other_beside[place]):
        return False
    return all([(here in beside[at]) == (there in other_beside[place]) for here, there in enumerate(begun)])


def naming_from(beside, other_beside, begun):
    """Tell a naming that begins so, or None, from the lists of places tied to each."""
    if len(begun) == len(beside):
        return begun
    for place in range(len(other_beside)):
        if goes_on(beside, other_beside, begun, place):
            naming = naming_from(beside, other_beside, begun + [place])
            if naming is not None:
                return naming
    return None


def naming_between(one, other):
    """Tell a naming from the one small web to the other, or None."""
    if one[0] != other[0]:
        return None
    return naming_from(beside_all(one), beside_all(other), [])


def alike(one, other):
    """Tell a naming from the one web to the other, or None where they aren't alike."""
    look_at_web(one)
    look_at_web(other)
    if max(one[0], other[0]) > MOST_ALIKE:
        raise TooBig("webs of too many places to be compared")
    return naming_between(one, other)
