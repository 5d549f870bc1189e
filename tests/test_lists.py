"""Point 6 for great_towns, with BadNumber and BadRule."""

import unittest
from itertools import combinations

from fourtowns.errors import BadNumber, BadRule
from fourtowns.greatest import great_town, shows_great_town
from fourtowns.lists import great_towns
from helper import NO_INTEGERS, NO_RULES, WORD_PAIRS, ProgramCase, all_clubs, told_breach

EVEN_EVEN, EVEN_ODD, ODD_EVEN, ODD_ODD = WORD_PAIRS

# How many clubs at most for 1 to 5 people.
MOST = {EVEN_EVEN: (1, 2, 2, 4, 4), EVEN_ODD: (1, 1, 3, 3, 5), ODD_EVEN: (1, 2, 3, 4, 5), ODD_ODD: (1, 1, 2, 2, 4)}

# How many towns for 1 to 5 people: by the products of point 6, and for (even, odd), which has no product, by a count.
MANY = {EVEN_EVEN: (1, 1, 3, 3, 15), EVEN_ODD: (1, 2, 1, 8, 6), ODD_EVEN: (1, 1, 1, 2, 6), ODD_ODD: (1, 2, 3, 12, 15)}

OUTSIDE = (0, -1, -5, 6, 7, 8, 9, 60, 61, 10 ** 30, -10 ** 30)


class ExamplesTest(ProgramCase):
    def test_values(self):
        by_even = ((3, ((), (0, 1))), (3, ((), (0, 2))), (3, ((), (1, 2))))
        by_odd = ((4, ((0,), (1,), (2,), (3,))), (4, ((0, 1, 2), (0, 1, 3), (0, 2, 3), (1, 2, 3))))
        found = [great_towns(3, ("even", "even")), great_towns(4, ("odd", "even"))]
        self.assert_same(found, [by_even, by_odd])


class ArgumentsTest(ProgramCase):
    def test_numbers_outside(self):
        for people in OUTSIDE:
            for rule in WORD_PAIRS:
                self.assert_error(BadNumber, {}, great_towns, people, rule)

    def test_no_integers(self):
        for value in NO_INTEGERS:
            for rule in WORD_PAIRS:
                self.assert_error(BadNumber, {}, great_towns, value, rule)

    def test_no_rules(self):
        for value in NO_RULES:
            for people in range(1, 6):
                self.assert_error(BadRule, {}, great_towns, people, value)

    def test_the_number_is_told_ahead_of_the_rule(self):
        for value in NO_RULES:
            for people in OUTSIDE + NO_INTEGERS:
                self.assert_error(BadNumber, {}, great_towns, people, value)


class GreatTownsTest(ProgramCase):
    def test_values(self):
        self.assert_same(self.answer(great_towns, 1, EVEN_EVEN), ((1, ((),)),))
        self.assert_same(self.answer(great_towns, 1, ODD_ODD), ((1, ((0,),)),))
        self.assert_same(self.answer(great_towns, 2, EVEN_ODD), ((2, ((),)), (2, ((0, 1),))))
        self.assert_same(self.answer(great_towns, 2, ODD_ODD), ((2, ((0,),)), (2, ((1,),))))
        self.assert_same(self.answer(great_towns, 3, EVEN_ODD), ((3, ((0, 1), (0, 2), (1, 2))),))
        expected = ((3, ((0,), (0, 1, 2))), (3, ((0, 1, 2), (1,))), (3, ((0, 1, 2), (2,))))
        self.assert_same(self.answer(great_towns, 3, ODD_ODD), expected)

    def test_how_many(self):
        for rule, numbers in MANY.items():
            found = tuple(len(self.answer(great_towns, people, rule)) for people in range(1, 6))
            self.assert_same(found, numbers)

    def test_against_all_choices_of_so_many_clubs(self):
        for people in range(1, 6):
            for rule in WORD_PAIRS:
                clubs = [club for club in all_clubs(people) if len(club) % 2 == (rule[0] == "odd")]
                towns = [(people, chosen) for chosen in combinations(clubs, MOST[rule][people - 1])]
                expected = tuple(sorted(town for town in towns if told_breach(town, rule) is None))
                self.assert_same(self.answer(great_towns, people, rule), expected)

    def test_each_is_shown_and_great_town_is_one(self):
        for people in range(1, 6):
            for rule in WORD_PAIRS:
                found = self.answer(great_towns, people, rule)
                for town in found:
                    self.assert_same(self.answer(shows_great_town, people, rule, town), True)
                self.assertIn(great_town(people, rule), found)


if __name__ == "__main__":
    unittest.main()
