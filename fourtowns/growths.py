"""Clubs that a town can have besides its own by a rule, and full towns."""

from fourtowns.errors import BreaksRule
from fourtowns.rules import keeps, suits
from fourtowns.towns import all_clubs, in_both, is_town


def check_kept(town, rule):
    """Raise the error of a town, of a rule, or BreaksRule if the town does not keep the rule."""
    if not keeps(town, rule):
        raise BreaksRule("the town does not keep the rule")


def fits(club, clubs, rule):
    """Whether a club is none of some clubs that keep a rule, and they keep it with this club, too."""
    size, meet = rule
    if club in clubs or not suits(len(club), size):
        return False
    for other in clubs:
        if not suits(len(in_both(club, other)), meet):
            return False
    return True


def more_clubs(town, rule):
    """The clubs with each of which a town still keeps a rule, ascending."""
    check_kept(town, rule)
    people, clubs = town
    return tuple([club for club in all_clubs(people) if fits(club, clubs, rule)])


def is_full(town, rule):
    """Whether no club can be added to a town by a rule."""
    return more_clubs(town, rule) == ()


def filled(town, rule):
    """A full town with all clubs of a town."""
    check_kept(town, rule)
    people, clubs = town
    # Once is enough for each club: one that does not fit never fits more clubs than these.
    for club in all_clubs(people):
        if fits(club, clubs, rule):
            clubs = clubs + (club,)
    return (people, tuple(sorted(clubs)))


def has_clubs(clubs, some):
    """Whether all of some clubs are among the clubs."""
    for club in some:
        if club not in clubs:
            return False
    return True


def shows_filled(town, rule, value):
    """Whether a value is what filled may return."""
    check_kept(town, rule)
    people, clubs = town
    if not is_town(value) or not keeps(value, rule):
        return False
    return value[0] == people and has_clubs(value[1], clubs) and is_full(value, rule)
