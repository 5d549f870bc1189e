"""How many clubs a town has at most by a rule, and towns with so many."""

from fourtowns.rules import check_rule, keeps
from fourtowns.towns import MOST_PEOPLE, check_number, is_town, joined

MOST_COUNTED = 60


def most_clubs(people, rule):
    """The greatest number of clubs of a town of so many people that keeps a rule."""
    check_number(people, MOST_COUNTED)
    check_rule(rule)
    if rule == ("odd", "even"):
        return people
    if rule == ("even", "odd"):
        return people if people % 2 == 1 else people - 1
    if rule == ("even", "even"):
        return 1 << people // 2
    return 1 << (people - 1) // 2


def couples(people):
    """The clubs (0, 1), (2, 3), .., without the last one of an odd number of people."""
    return [(person, person + 1) for person in range(0, people - 1, 2)]


def sharing_one(people):
    """Clubs of even sizes, of which any two share one person."""
    clubs = [(0, person) for person in range(1, people)]
    # All people but the first are evenly many only if there are oddly many people.
    if people % 2 == 1:
        clubs.append(tuple(range(1, people)))
    return clubs


def great_clubs(people, rule):
    """The clubs of a town with the most clubs, in no certain order."""
    last = people - 1
    if rule == ("odd", "even"):
        return [(person,) for person in range(people)]
    if rule == ("even", "odd"):
        return sharing_one(people)
    if rule == ("even", "even"):
        return joined(couples(people))
    return [club + (last,) for club in joined(couples(last))]


def great_town(people, rule):
    """A town of so many people with the most clubs by a rule."""
    check_number(people, MOST_PEOPLE)
    check_rule(rule)
    return (people, tuple(sorted(great_clubs(people, rule))))


def shows_great_town(people, rule, value):
    """Whether a value is what great_town may return."""
    check_number(people, MOST_PEOPLE)
    check_rule(rule)
    if not is_town(value) or not keeps(value, rule):
        return False
    return value[0] == people and len(value[1]) == most_clubs(people, rule)
