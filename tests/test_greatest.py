"""Point 5: most_clubs, great_town and shows_great_town, with BadNumber and BadRule."""

import unittest
from itertools import combinations

from fourtowns.errors import BadNumber, BadRule
from fourtowns.greatest import great_town, most_clubs, shows_great_town
from helper import (
    NO_INTEGERS, NO_RULES, NO_TOWNS, STRANGE_VALUES, WORD_PAIRS, ProgramCase, all_clubs, small_towns, told_breach,
)

EVEN_EVEN, EVEN_ODD, ODD_EVEN, ODD_ODD = WORD_PAIRS

# How many clubs at most for 1 to 8 people, written out.
MOST = {
    EVEN_EVEN: (1, 2, 2, 4, 4, 8, 8, 16),
    EVEN_ODD: (1, 1, 3, 3, 5, 5, 7, 7),
    ODD_EVEN: (1, 2, 3, 4, 5, 6, 7, 8),
    ODD_ODD: (1, 1, 2, 2, 4, 4, 8, 8),
}

OUTSIDE_OF_EIGHT = (0, -1, -8, 9, 10, 60, 61, 10 ** 30, -10 ** 30)

OUTSIDE_OF_SIXTY = (0, -1, -60, 61, 62, 100, 10 ** 30, -10 ** 30)


class ExamplesTest(ProgramCase):
    def test_values(self):
        value = (3, ((0, 1), (0, 2), (1, 2)))
        found = [[most_clubs(8, rule) for rule in WORD_PAIRS], shows_great_town(3, ("even", "odd"), value)]
        self.assert_same(found, [[16, 7, 8, 8], True])

    def test_error(self):
        self.assert_error(BadNumber, {}, great_town, 9, ("odd", "odd"))


class MostClubsTest(ProgramCase):
    def test_for_few_people(self):
        for rule, numbers in MOST.items():
            for people in range(1, 9):
                self.assert_same(self.answer(most_clubs, people, rule), numbers[people - 1])

    def test_formula_of_odd_and_even(self):
        for people in range(1, 61):
            self.assert_same(self.answer(most_clubs, people, ODD_EVEN), people)

    def test_formula_of_even_and_even(self):
        for people in range(1, 61):
            self.assert_same(self.answer(most_clubs, people, EVEN_EVEN), 2 ** (people // 2))

    def test_formula_of_odd_and_odd(self):
        for people in range(1, 61):
            self.assert_same(self.answer(most_clubs, people, ODD_ODD), 2 ** ((people - 1) // 2))

    def test_formula_of_even_and_odd(self):
        for people in range(1, 61):
            expected = people - 1 if people % 2 == 0 else people
            self.assert_same(self.answer(most_clubs, people, EVEN_ODD), expected)

    def test_greatest_numbers(self):
        found = [self.answer(most_clubs, people, rule) for people in (59, 60) for rule in WORD_PAIRS]
        self.assert_same(found, [536870912, 59, 59, 536870912, 1073741824, 59, 60, 536870912])

    def test_no_town_of_few_people_has_more_and_some_has_so_many(self):
        for people in range(1, 6):
            for rule in WORD_PAIRS:
                clubs = [club for club in all_clubs(people) if len(club) % 2 == (rule[0] == "odd")]
                most = most_clubs(people, rule)
                for many, expected in ((most, True), (most + 1, False)):
                    kept = [told_breach((people, chosen), rule) is None for chosen in combinations(clubs, many)]
                    self.assert_same(any(kept), expected)


class ArgumentsTest(ProgramCase):
    def assert_all(self, error, people, rule):
        """The same error by the functions for 1 to 8 people, whatever is shown."""
        self.assert_error(error, {}, great_town, people, rule)
        for value in ((1, ()), (people, ()), None, [rule]):
            self.assert_error(error, {}, shows_great_town, people, rule, value)

    def test_numbers_outside(self):
        for rule in WORD_PAIRS:
            for people in OUTSIDE_OF_EIGHT:
                self.assert_all(BadNumber, people, rule)
            for people in OUTSIDE_OF_SIXTY:
                self.assert_error(BadNumber, {}, most_clubs, people, rule)

    def test_no_integers(self):
        for value in NO_INTEGERS:
            for rule in WORD_PAIRS:
                self.assert_all(BadNumber, value, rule)
                self.assert_error(BadNumber, {}, most_clubs, value, rule)

    def test_no_rules(self):
        for value in NO_RULES:
            for people in (1, 2, 7, 8):
                self.assert_all(BadRule, people, value)
            for people in (1, 8, 9, 60):
                self.assert_error(BadRule, {}, most_clubs, people, value)

    def test_the_number_is_told_ahead_of_the_rule(self):
        for value in NO_RULES:
            for people in OUTSIDE_OF_EIGHT + NO_INTEGERS:
                self.assert_all(BadNumber, people, value)
            for people in OUTSIDE_OF_SIXTY + NO_INTEGERS:
                self.assert_error(BadNumber, {}, most_clubs, people, value)

    def test_a_shown_value_keeps_no_error_back(self):
        for value in STRANGE_VALUES + ((1, ()), (9, ((0,),)), (3, ((0, 1), (0, 2), (1, 2)))):
            self.assert_error(BadNumber, {}, shows_great_town, 9, EVEN_ODD, value)
            self.assert_error(BadNumber, {}, shows_great_town, True, EVEN_ODD, value)
            self.assert_error(BadRule, {}, shows_great_town, 3, ["even", "odd"], value)


class GreatTownTest(ProgramCase):
    def test_where_there_is_one_value(self):
        self.assert_same(self.answer(great_town, 1, EVEN_EVEN), (1, ((),)))
        self.assert_same(self.answer(great_town, 1, EVEN_ODD), (1, ((),)))
        self.assert_same(self.answer(great_town, 1, ODD_EVEN), (1, ((0,),)))
        self.assert_same(self.answer(great_town, 1, ODD_ODD), (1, ((0,),)))
        self.assert_same(self.answer(great_town, 2, EVEN_EVEN), (2, ((), (0, 1))))
        self.assert_same(self.answer(great_town, 2, ODD_EVEN), (2, ((0,), (1,))))
        self.assert_same(self.answer(great_town, 3, EVEN_ODD), (3, ((0, 1), (0, 2), (1, 2))))
        self.assert_same(self.answer(great_town, 3, ODD_EVEN), (3, ((0,), (1,), (2,))))

    def test_within_the_limits(self):
        for people in range(1, 9):
            for rule in WORD_PAIRS:
                value = self.answer(great_town, people, rule)
                self.assertIs(type(value), tuple)
                self.assertEqual((len(value), value[0]), (2, people))
                self.assert_same(value[1], tuple(sorted(set(value[1]))))
                self.assertLessEqual(set(value[1]), set(all_clubs(people)))
                self.assertEqual(len(value[1]), MOST[rule][people - 1])
                self.assertIsNone(told_breach(value, rule))
                self.assert_same(self.answer(shows_great_town, people, rule, value), True)


class ShowsGreatTownTest(ProgramCase):
    def assert_shown(self, expected, people, rule, value):
        self.assert_same(self.answer(shows_great_town, people, rule, value), expected)

    def test_each_such_town_is_shown(self):
        self.assert_shown(True, 4, ODD_EVEN, (4, ((0,), (1,), (2,), (3,))))
        self.assert_shown(True, 4, ODD_EVEN, (4, ((0, 1, 2), (0, 1, 3), (0, 2, 3), (1, 2, 3))))
        self.assert_shown(True, 2, EVEN_ODD, (2, ((),)))
        self.assert_shown(True, 2, EVEN_ODD, (2, ((0, 1),)))
        self.assert_shown(True, 2, ODD_ODD, (2, ((0,),)))
        self.assert_shown(True, 2, ODD_ODD, (2, ((1,),)))
        self.assert_shown(True, 4, EVEN_EVEN, (4, ((), (0, 1, 2, 3), (0, 2), (1, 3))))
        self.assert_shown(True, 4, EVEN_ODD, (4, ((0, 1), (0, 2), (1, 2))))

    def test_all_small_towns(self):
        towns = list(small_towns(3))
        for people in (1, 2, 3):
            for rule in WORD_PAIRS:
                for value in towns:
                    expected = value[0] == people and len(value[1]) == MOST[rule][people - 1]
                    expected = expected and told_breach(value, rule) is None
                    self.assert_shown(expected, people, rule, value)

    def test_towns_of_four_with_so_many_clubs(self):
        for value in small_towns(4, 4):
            for rule in WORD_PAIRS:
                expected = value[0] == 4 and len(value[1]) == MOST[rule][3] and told_breach(value, rule) is None
                self.assert_shown(expected, 4, rule, value)

    def test_values_of_every_kind(self):
        for value in STRANGE_VALUES + NO_RULES + NO_INTEGERS + tuple(value for value, _ in NO_TOWNS):
            for people in (1, 2, 3, 8):
                for rule in WORD_PAIRS:
                    self.assert_shown(False, people, rule, value)

    def test_values_that_look_like_the_right_one(self):
        self.assert_shown(True, 2, ODD_EVEN, (2, ((0,), (1,))))
        values = (
            [2, ((0,), (1,))], (2, [(0,), (1,)]), (2, ([0], [1])), (2, ((0,), [1])), (2, ((1,), (0,))), ((0,), (1,)),
            (2, ((0,), (0,))), (2, ((0,), (1,)), ()), (2, ((0,), (True,))), (2, ((False,), (1,))),
            ((2, ((0,), (1,))),), (2, (0, 1)), {2: ((0,), (1,))}, ("2", ((0,), (1,))), "people 2\nclub 0\nclub 1",
        )
        for value in values:
            self.assert_shown(False, 2, ODD_EVEN, value)
        self.assert_shown(True, 1, ODD_ODD, (1, ((0,),)))
        self.assert_shown(False, 1, ODD_ODD, (True, ((0,),)))
        self.assert_shown(False, 1, ODD_ODD, (1, ((False,),)))

    def test_too_few_clubs(self):
        for people in range(1, 9):
            for rule in WORD_PAIRS:
                _, clubs = great_town(people, rule)
                for k in range(len(clubs)):
                    self.assert_shown(False, people, rule, (people, clubs[:k] + clubs[k + 1:]))

    def test_full_towns_with_too_few_clubs(self):
        self.assert_shown(False, 3, ODD_EVEN, (3, ((0, 1, 2),)))
        self.assert_shown(False, 5, EVEN_ODD, (5, ((0, 1), (0, 2), (1, 2))))
        self.assert_shown(False, 3, EVEN_ODD, (3, ((),)))

    def test_so_many_clubs_that_break_the_rule(self):
        self.assert_shown(False, 2, ODD_EVEN, (2, ((0,), (0, 1))))
        self.assert_shown(False, 3, ODD_EVEN, (3, ((0,), (0, 1, 2), (1,))))
        self.assert_shown(False, 3, EVEN_EVEN, (3, ((0, 1), (0, 2))))
        self.assert_shown(False, 3, EVEN_ODD, (3, ((), (0, 1), (0, 2))))
        self.assert_shown(False, 3, ODD_ODD, (3, ((0,), (1,))))
        self.assert_shown(False, 1, ODD_ODD, (1, ((),)))

    def test_too_many_clubs(self):
        for people in range(1, 9):
            for rule in WORD_PAIRS:
                _, clubs = great_town(people, rule)
                for club in all_clubs(people):
                    if club not in clubs:
                        self.assert_shown(False, people, rule, (people, tuple(sorted(clubs + (club,)))))

    def test_another_number_of_people(self):
        for people in range(1, 9):
            for rule in WORD_PAIRS:
                for other in range(1, 9):
                    self.assert_shown(other == people, people, rule, great_town(other, rule))

    def test_so_many_clubs_of_another_number_of_people(self):
        self.assert_shown(False, 3, EVEN_EVEN, (2, ((), (0, 1))))
        self.assert_shown(False, 2, EVEN_EVEN, (3, ((), (0, 1))))
        self.assert_shown(False, 4, EVEN_ODD, (3, ((0, 1), (0, 2), (1, 2))))
        self.assert_shown(False, 1, ODD_ODD, (2, ((0,),)))


if __name__ == "__main__":
    unittest.main()
