"""Sums of clubs, and the clubs that share evenly with all clubs of a town."""

from fourtowns.rules import suits
from fourtowns.towns import all_clubs, check_club, check_town, in_both


def in_just_one(one, other):
    """The people in one of two clubs and not in the other, ascending."""
    return tuple(sorted(set(one) ^ set(other)))


def all_sums(clubs):
    """The sums of any of some clubs, each once, in no certain order."""
    found = [()]
    for club in clubs:
        # A club that is a sum of others brings no sums that they do not have.
        if club not in found:
            found = found + [in_just_one(club, other) for other in found]
    return found


def shares_evenly(club, clubs):
    """Whether a club has evenly many people in common with each of some clubs."""
    for other in clubs:
        if not suits(len(in_both(club, other)), "even"):
            return False
    return True


def summed(town, one, other):
    """The sum of two clubs of a town's people."""
    check_town(town)
    people, _ = town
    check_club(one, people)
    check_club(other, people)
    return in_just_one(one, other)


def total(town):
    """The sum of all clubs of a town."""
    check_town(town)
    _, clubs = town
    found = ()
    for club in clubs:
        found = in_just_one(found, club)
    return found


def sums(town):
    """The sums of any clubs of a town, ascending."""
    check_town(town)
    _, clubs = town
    return tuple(sorted(all_sums(clubs)))


def dimension(town):
    """The number whose power of 2 is how many sums a town has."""
    return len(sums(town)).bit_length() - 1


def is_sum(town, club):
    """Whether a club is a sum of clubs of a town."""
    check_town(town)
    people, clubs = town
    check_club(club, people)
    return club in all_sums(clubs)


def beside(town):
    """The clubs of a town's people that share evenly with each club of the town, ascending."""
    check_town(town)
    people, clubs = town
    return tuple([club for club in all_clubs(people) if shares_evenly(club, clubs)])
