"""The four rules on odd and even, and what keeps or breaks them."""

from fourtowns.errors import BadRule
from fourtowns.towns import check_town, in_both

WORDS = ("even", "odd")

RULES = (("even", "even"), ("even", "odd"), ("odd", "even"), ("odd", "odd"))


def check_rule(value):
    """Raise BadRule if a value is no rule."""
    if value not in RULES:
        raise BadRule("a rule is a pair of two words, each even or odd")


def suits(number, word):
    """Whether a number is even or odd, as the word says."""
    return WORDS[number % 2] == word


def first_of_wrong_size(clubs, size):
    """The first club of a wrong size, alone in a tuple, or None."""
    for club in clubs:
        if not suits(len(club), size):
            return (club,)
    return None


def first_sharing_wrongly(clubs, meet):
    """The first two clubs that share wrongly, or None."""
    for place, one in enumerate(clubs):
        for other in clubs[place + 1:]:
            if not suits(len(in_both(one, other)), meet):
                return (one, other)
    return None


def first_breach(clubs, rule):
    """What breaking returns, for clubs and a rule that are known to be good."""
    size, meet = rule
    wrong = first_of_wrong_size(clubs, size)
    if wrong is None:
        wrong = first_sharing_wrongly(clubs, meet)
    return wrong


def all_rules():
    """The four rules, ascending."""
    return RULES


def keeps(town, rule):
    """Whether a town keeps a rule."""
    return breaking(town, rule) is None


def rules_kept(town):
    """The rules that a town keeps, ascending."""
    check_town(town)
    _, clubs = town
    return tuple([rule for rule in RULES if first_breach(clubs, rule) is None])


def breaking(town, rule):
    """The first club of a wrong size, or else the first two that share wrongly, or None."""
    check_town(town)
    check_rule(rule)
    _, clubs = town
    return first_breach(clubs, rule)
