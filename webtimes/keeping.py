"""What keeps a product of webs, told from their primes: how many renamings, and which places they lead where."""

from webtimes.alike import MOST_ALIKE, goes_on, naming_from
from webtimes.errors import TooBig
from webtimes.factors import told_factoring
from webtimes.likeness import like_lists
from webtimes.rows import look_at_webs
from webtimes.ways import look_at_hanging, pieces, refuse_apart
from webtimes.webs import as_tie, beside_all


def look_at_primes(primes):
    """Refuse primes of too many places with TooBig."""
    for many, _ in primes:
        if many > MOST_ALIKE:
            raise TooBig("a prime of too many places")


def all_primes(webs):
    """Tell the told factors of all webs, which hang together."""
    primes = []
    for web in webs:
        primes.extend(told_factoring(web)[0])
    return primes


def primes_of(webs):
    """Tell the told factors of the first web, then of the second, and so on."""
    look_at_webs(webs)
    refuse_apart(webs)
    return all_primes(webs)


def small_primes(webs):
    """Tell the primes of the webs, where each has few places."""
    primes = primes_of(webs)
    look_at_primes(primes)
    return primes


def like_groups(webs):
    """Tell the lists of the numbers of primes that are alike."""
    return [[number for number, _ in like] for like in like_lists(small_primes(webs))]


def basic_renamings(web):
    """Tell for each place renamings that leave all lesser ones, one for each place to which any of these leads it."""
    beside = beside_all(web)
    basic = []
    for at in range(web[0]):
        left = list(range(at))
        ends = [place for place in range(web[0]) if goes_on(beside, beside, left, place)]
        namings = [naming_from(beside, beside, left + [place]) for place in ends]
        basic.append([naming for naming in namings if naming is not None])
    return basic


def count_renamings(web):
    """Tell how many renamings a small web has."""
    many = 1
    # Each renaming is, in one way alone, one of each list behind the other.
    for namings in basic_renamings(web):
        many = many * len(namings)
    return many


def kept_many(webs):
    """Tell how many renamings the product of the webs has."""
    primes = small_primes(webs)
    many = 1
    for like in like_lists(primes):
        renamings = count_renamings(primes[like[0][0]])
        for others in range(len(like)):
            many = many * renamings * (others + 1)
    return many


def alike_products(ones, others):
    """Tell whether the products of the two lists of webs are alike."""
    look_at_webs(ones)
    look_at_webs(others)
    refuse_apart(ones + others)
    own = all_primes(ones)
    primes = own + all_primes(others)
    look_at_primes(primes)
    for like in like_lists(primes):
        own_numbers = [number for number, _ in like if number < len(own)]
        if 2 * len(own_numbers) != len(like):
            return False
    return True


def small_orbits(web):
    """Tell for each place of a small web the number of its orbit."""
    # As all renamings are made of the basic ones, orbits are what these tie together.
    led = [(place, naming[place]) for namings in basic_renamings(web) for naming in namings for place in range(web[0])]
    ties = sorted({as_tie(one, other) for one, other in led if one != other})
    numbers = [0 for _ in range(web[0])]
    for number, piece in enumerate(pieces((web[0], ties))):
        for place in piece:
            numbers[place] = number
    return numbers


def orbit_sign(lists, orbit_numbers, row):
    """Tell what the rows of one orbit have in common: for each list of like factors the orbits in them, sorted."""
    sign = []
    for like, numbers in zip(lists, orbit_numbers):
        sign.append(tuple(sorted([numbers[naming.index(row[factor])] for factor, naming in like])))
    return tuple(sign)


def orbits(web):
    """Tell the lists of places that renamings lead to one another."""
    look_at_hanging(web)
    factors, rows = told_factoring(web)
    look_at_primes(factors)
    lists = like_lists(factors)
    orbit_numbers = [small_orbits(factors[like[0][0]]) for like in lists]
    found = {}
    for place, row in enumerate(rows):
        found.setdefault(orbit_sign(lists, orbit_numbers, row), []).append(place)
    return list(found.values())
