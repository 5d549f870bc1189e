"""How many towns there are with the most clubs by a rule."""

from math import factorial

from fourtowns.errors import BadRule
from fourtowns.greatest import MOST_COUNTED
from fourtowns.rules import check_rule
from fourtowns.towns import check_number


def check_counted_rule(value):
    """Raise BadRule if a value is no rule, or the one by which the towns are not counted."""
    check_rule(value)
    if value == ("even", "odd"):
        raise BadRule("towns are not counted by the rule (even, odd)")


def powers_and_one(last):
    """The product of all 2 to the power of i, plus 1, i from 1 to the last."""
    result = 1
    for i in range(1, last + 1):
        result *= (1 << i) + 1
    return result


def powers_less_one(last):
    """The product of all 4 to the power of i, less 1, i from 1 to the last."""
    result = 1
    for i in range(1, last + 1):
        result *= (1 << 2 * i) - 1
    return result


def count_odd_even(people):
    """How many towns there are by (odd, even)."""
    half = people // 2
    last = half if people % 2 == 1 else half - 1
    # The product counts the clubs in each of their orders, a town has them in one.
    return (1 << half * half) * powers_less_one(last) // factorial(people)


def count_great(people, rule):
    """How many towns of so many people have the most clubs by a rule."""
    check_number(people, MOST_COUNTED)
    check_counted_rule(rule)
    if rule == ("odd", "even"):
        return count_odd_even(people)
    if rule == ("odd", "odd") and people % 2 == 0:
        half = people // 2
        return (1 << half) * powers_and_one(half - 1)
    return powers_and_one((people - 1) // 2)
