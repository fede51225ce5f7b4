"""What is left of a naming between powers: one between what was raised."""

from webtimes.factorings import side_by_side
from webtimes.factors import told_factoring
from webtimes.namings import look_at_naming
from webtimes.parts import joined_by, parts_by
from webtimes.products import multiplied
from webtimes.ways import look_at_all_hanging


def leads_of(many, parts):
    """Tell for each of so many webs that are raised to which ones its copies lead, with a naming to each."""
    turn, namings = parts
    leads = [{} for _ in range(many)]
    for number, toward in enumerate(turn):
        leads[number % many][toward % many] = namings[number]
    return leads


def chosen_parts(leads):
    """Tell parts that lead each number to one of its own, no two to the same."""
    # What is raised by two or more has at most two primes (three would come to 64 rows); where the first leads
    # to both, so does the second, as many copies come to each. So whichever is chosen first, one is left.
    turn = []
    for ways in leads:
        turn.append([toward for toward in ways if toward not in turn][0])
    return (turn, [leads[number][toward] for number, toward in enumerate(turn)])


def lowered(one, other, naming, times=2):
    """Tell a naming from the one to the other, from one between their powers."""
    look_at_all_hanging([one, other])
    look_at_naming(multiplied([one for _ in range(times)]), multiplied([other for _ in range(times)]), naming)
    first = told_factoring(one)
    second = told_factoring(other)
    raised = side_by_side([first for _ in range(times)])
    other_raised = side_by_side([second for _ in range(times)])
    leads = leads_of(len(first[0]), parts_by(raised, other_raised, naming))
    return joined_by(first, second, chosen_parts(leads))
