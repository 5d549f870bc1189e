"""All towns with the most clubs by a rule."""

from fourtowns.greatest import most_clubs
from fourtowns.growths import fits
from fourtowns.rules import check_rule
from fourtowns.towns import all_clubs, check_number

MOST_LISTED = 5


def with_one_more(choices, clubs, rule):
    """Each choice with each club that fits and comes behind all of the choice, ascending if the choices are."""
    found = []
    for chosen in choices:
        for club in clubs:
            # Slices are compared, since the first choice has no last club.
            if chosen[-1:] < (club,) and fits(club, chosen, rule):
                found.append(chosen + (club,))
    return found


def great_towns(people, rule):
    """All towns of so many people with the most clubs by a rule, ascending."""
    check_number(people, MOST_LISTED)
    check_rule(rule)
    clubs = all_clubs(people)
    choices = [()]
    for _ in range(most_clubs(people, rule)):
        choices = with_one_more(choices, clubs, rule)
    return tuple([(people, chosen) for chosen in choices])
