"""Books of primes, and webs in several pieces as sums of their powers."""

from webtimes.alike import MOST_ALIKE, naming_between
from webtimes.errors import NoBook, NoName, NoSum, TooBig
from webtimes.factors import is_prime, told_factoring
from webtimes.likeness import like_lists
from webtimes.products import multiplied
from webtimes.rows import count_rows, count_ties
from webtimes.sums import MOST_KINDS, Sum
from webtimes.ways import hangs_together, pieces, within
from webtimes.webs import MOST_PLACES, MOST_TIES, look_at_web, web_fault


def is_small_prime(thing):
    """Tell of anything whether it is a web of few places that is prime."""
    return web_fault(thing) is None and thing[0] <= MOST_ALIKE and hangs_together(thing) and is_prime(thing)


def look_at_book(thing):
    """Refuse what is no book with NoBook."""
    if not isinstance(thing, list) or not 1 <= len(thing) <= MOST_KINDS:
        raise NoBook("no list of one to four webs")
    if not all([is_small_prime(web) for web in thing]):
        raise NoBook("not each is a prime of few places")
    if len(like_lists(thing)) < len(thing):
        raise NoBook("two webs are alike")


def name_by(book, web):
    """Tell the number of the book's web that is alike to a prime, or NoName."""
    for number, prime in enumerate(book):
        if naming_between(prime, web) is not None:
            return number
    raise NoName("")


def powers_by(book, web):
    """Tell how many told factors of a web that hangs together are alike to each web of the book."""
    names = [name_by(book, factor) for factor in told_factoring(web)[0]]
    return tuple([names.count(number) for number in range(len(book))])


def sum_of(book, web):
    """Tell the sum of the web by the book: how many pieces are made by which powers."""
    look_at_book(book)
    look_at_web(web)
    many_by = {}
    for piece in pieces(web):
        powers = powers_by(book, within(web, piece))
        many_by[powers] = many_by.get(powers, 0) + 1
    return Sum(sorted(many_by.items()), len(book))


def webs_by(book, powers):
    """Tell each web of the book as many times as its power tells."""
    return [web for web, power in zip(book, powers) for _ in range(power)]


def look_at_total(book, thing):
    """Refuse what is no sum by the book that has a term with NoSum."""
    if not isinstance(thing, Sum) or thing.kinds() != len(book) or len(thing) == 0:
        raise NoSum("no sum with a term, of as many kinds as the book has webs")


def web_by(book, total):
    """Tell the web whose pieces are, term by term, the products that the sum tells."""
    look_at_book(book)
    look_at_total(book, total)
    parts = [(webs_by(book, powers), many) for powers, many in total.terms()]
    # Counted ahead, as there may be too many pieces to be gone through.
    if sum([count_rows(webs) * many for webs, many in parts]) > MOST_PLACES:
        raise TooBig("a web of too many places")
    if sum([count_ties(webs) * many for webs, many in parts]) > MOST_TIES:
        raise TooBig("a web of too many ties")
    places = 0
    ties = []
    for webs, many in parts:
        own_places, own_ties = multiplied(webs)
        for _ in range(many):
            ties.extend([(places + one, places + other) for one, other in own_ties])
            places = places + own_places
    return (places, ties)
