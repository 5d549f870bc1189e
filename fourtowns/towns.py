"""Towns: people 0, 1, .., and the clubs that they are in."""

from fourtowns.errors import BadClub, BadNumber, BadTown

MOST_PEOPLE = 8


def is_number(value):
    """Whether a value is an integer; True and False are none here."""
    return isinstance(value, int) and not isinstance(value, bool)


def is_club(value, people):
    """Whether a value is an ascending tuple of some of so many people."""
    if not isinstance(value, tuple):
        return False
    ahead = -1
    for person in value:
        if not is_number(person) or not ahead < person < people:
            return False
        ahead = person
    return True


def are_clubs(value, people):
    """Whether a value is an ascending tuple of unlike clubs."""
    if not isinstance(value, tuple):
        return False
    # All are known to be clubs before two are compared: other values may have no order.
    for club in value:
        if not is_club(club, people):
            return False
    for ahead, club in zip(value, value[1:]):
        if not ahead < club:
            return False
    return True


def wrong_part(value):
    """The first word that names what keeps a value from being a town, or None."""
    if not isinstance(value, tuple) or len(value) != 2:
        return "whole"
    people, clubs = value
    if not is_number(people) or not 1 <= people <= MOST_PEOPLE:
        return "people"
    if not are_clubs(clubs, people):
        return "clubs"
    return None


def check_town(value):
    """Raise BadTown if a value is no town."""
    part = wrong_part(value)
    if part is not None:
        raise BadTown(part)


def check_club(value, people):
    """Raise BadClub if a value is no club of so many people."""
    if not is_club(value, people):
        raise BadClub("a club is an ascending tuple of unlike people of the town")


def check_number(value, most):
    """Raise BadNumber if a value is no number of people from 1 to most."""
    if not is_number(value) or not 1 <= value <= most:
        raise BadNumber("a number of people is an integer from 1 to the greatest that is taken")


def in_both(one, other):
    """The people in both of two clubs, ascending."""
    return tuple([person for person in one if person in other])


def joined(parts):
    """What any of the parts make up, in no certain order; each part's people are above those of the part ahead."""
    found = [()]
    for part in parts:
        found = found + [club + part for club in found]
    return found


def all_clubs(people):
    """All clubs of so many people, ascending."""
    return sorted(joined([(person,) for person in range(people)]))


def is_town(value):
    """Whether a value is a town."""
    return wrong_part(value) is None


def members(town):
    """How many clubs each person of a town is in."""
    check_town(town)
    people, clubs = town
    counts = [0] * people
    for club in clubs:
        for person in club:
            counts[person] += 1
    return tuple(counts)


def shared(town, one, other):
    """The people in both of two clubs of a town's people, ascending."""
    check_town(town)
    people, _ = town
    check_club(one, people)
    check_club(other, people)
    return in_both(one, other)
