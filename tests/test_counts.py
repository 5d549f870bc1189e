"""Point 6 for count_great, with BadNumber and BadRule."""

import unittest
from fractions import Fraction

from fourtowns.counts import count_great
from fourtowns.errors import BadNumber, BadRule
from fourtowns.lists import great_towns
from helper import NO_INTEGERS, NO_RULES, WORD_PAIRS, ProgramCase

EVEN_EVEN, EVEN_ODD, ODD_EVEN, ODD_ODD = WORD_PAIRS

COUNTED = (EVEN_EVEN, ODD_EVEN, ODD_ODD)

# How many towns for 1 to 8 people, worked out by hand from the products of point 6.
MANY = {
    EVEN_EVEN: (1, 1, 3, 3, 15, 15, 135, 135),
    ODD_EVEN: (1, 1, 1, 2, 6, 32, 288, 4608),
    ODD_ODD: (1, 2, 3, 12, 15, 120, 135, 2160),
}

EVEN_EVEN_AT_SIXTY = (
    "211541923381261073247026853506424330930052289562191003389937075592"
    "393311827456178289844583503389197498852636465399980611618296484375"
)

OUTSIDE = (0, -1, -5, -60, 61, 62, 100, 10 ** 30, -10 ** 30)


def product(numbers):
    found = Fraction(1)
    for number in numbers:
        found *= number
    return found


def told_count(people, rule):
    """What count_great has to return, by the words of the document."""
    if rule == ODD_EVEN:
        half = people // 2
        last = half - 1 if people % 2 == 0 else half
        orders = product(range(1, people + 1))
        return 2 ** (half ** 2) * product(4 ** i - 1 for i in range(1, last + 1)) / orders
    if rule == ODD_ODD and people % 2 == 0:
        return 2 ** (people // 2) * product(2 ** i + 1 for i in range(1, (people - 2) // 2 + 1))
    return product(2 ** i + 1 for i in range(1, (people - 1) // 2 + 1))


class ExamplesTest(ProgramCase):
    def test_values(self):
        found = [
            [count_great(people, ("even", "even")) for people in (6, 7)],
            [count_great(people, ("odd", "odd")) for people in (4, 6)],
            count_great(6, ("odd", "even")),
        ]
        self.assert_same(found, [[15, 135], [12, 120], 32])

    def test_error(self):
        self.assert_error(BadRule, {}, count_great, 6, ("even", "odd"))


class CountGreatTest(ProgramCase):
    def test_for_few_people(self):
        for rule, numbers in MANY.items():
            found = tuple(self.answer(count_great, people, rule) for people in range(1, 9))
            self.assert_same(found, numbers)

    def test_as_many_as_great_towns(self):
        for people in range(1, 6):
            for rule in COUNTED:
                self.assert_same(self.answer(count_great, people, rule), len(great_towns(people, rule)))

    def test_products(self):
        for people in range(1, 61):
            for rule in COUNTED:
                expected = told_count(people, rule)
                self.assertEqual(expected.denominator, 1)
                self.assert_same(self.answer(count_great, people, rule), expected.numerator)

    def test_sixty_people(self):
        by_even = self.answer(count_great, 60, EVEN_EVEN)
        self.assert_same(str(by_even), EVEN_EVEN_AT_SIXTY)
        self.assert_same(self.answer(count_great, 60, ODD_ODD), by_even * 2 ** 30)
        by_odd_and_even = str(self.answer(count_great, 60, ODD_EVEN))
        self.assertEqual(len(by_odd_and_even), 451)
        self.assertEqual(by_odd_and_even[:12], "550611271578")
        self.assertEqual(by_odd_and_even[-12:], "969928294400")

    def test_equal_arguments_have_equal_answers(self):
        for rule in COUNTED:
            alike = tuple(["".join(list(word)) for word in rule])
            self.assert_same(count_great(33, alike), count_great(33, rule))


class ArgumentsTest(ProgramCase):
    def test_numbers_outside(self):
        for people in OUTSIDE:
            for rule in WORD_PAIRS:
                self.assert_error(BadNumber, {}, count_great, people, rule)

    def test_no_integers(self):
        for value in NO_INTEGERS:
            for rule in WORD_PAIRS:
                self.assert_error(BadNumber, {}, count_great, value, rule)

    def test_the_rule_without_a_count(self):
        for people in range(1, 61):
            self.assert_error(BadRule, {}, count_great, people, EVEN_ODD)

    def test_no_rules(self):
        for value in NO_RULES:
            for people in (1, 2, 8, 59, 60):
                self.assert_error(BadRule, {}, count_great, people, value)

    def test_the_number_is_told_ahead_of_the_rule(self):
        for value in NO_RULES + (EVEN_ODD,):
            for people in OUTSIDE + NO_INTEGERS:
                self.assert_error(BadNumber, {}, count_great, people, value)


if __name__ == "__main__":
    unittest.main()
