"""Point 4: more_clubs, is_full, filled and shows_filled, with BadTown, BadRule and BreaksRule."""

import unittest
from itertools import combinations

from fourtowns.errors import BadRule, BadTown, BreaksRule
from fourtowns.growths import filled, is_full, more_clubs, shows_filled
from helper import (
    NO_RULES, NO_TOWNS, STRANGE_VALUES, WORD_PAIRS, ProgramCase, all_clubs, small_kept_towns, small_towns,
    told_breach, told_kept,
)

EVEN_EVEN, EVEN_ODD, ODD_EVEN, ODD_ODD = WORD_PAIRS

TOWN = (4, ((0, 1), (0, 2), (1, 2)))

# Each keeps the rule beside it, and is neither without clubs nor full.
GROWING = (
    ((8, ((), (0, 1, 2, 3), (2, 3, 4, 5))), EVEN_EVEN),
    ((7, ((0, 1), (0, 2, 3, 4), (0, 5))), EVEN_ODD),
    ((8, ((0, 1, 2), (0, 1, 3), (4,))), ODD_EVEN),
    ((8, ((0, 1, 2, 3, 4), (0, 5, 6))), ODD_ODD),
    ((6, ((0,), (0, 1, 2))), ODD_ODD),
    ((5, ((1, 2, 3, 4),)), EVEN_EVEN),
)

# By these two rules each full town has so many clubs.
SAME_MANY = {EVEN_EVEN: (1, 2, 2, 4, 4, 8, 8, 16), ODD_ODD: (1, 1, 2, 2, 4, 4, 8, 8)}


def told_more(town, rule):
    """What more_clubs has to return for a town that keeps the rule, by the words of the document."""
    people, clubs = town
    others = [club for club in all_clubs(people) if club not in clubs]
    return tuple(club for club in others if told_kept(people, clubs + (club,), rule))


def with_club(town, club):
    return (town[0], tuple(sorted(town[1] + (club,))))


class ExamplesTest(ProgramCase):
    def test_values(self):
        found = [
            more_clubs((3, ((0,),)), ("odd", "even")), is_full((3, ((0, 1, 2),)), ("odd", "even")),
            filled((2, ()), ("even", "even")),
        ]
        self.assert_same(found, [((1,), (2,)), True, (2, ((), (0, 1)))])

    def test_error(self):
        self.assert_error(BreaksRule, {}, is_full, (2, ((0,),)), ("even", "odd"))


class ArgumentsTest(ProgramCase):
    """The errors, which are the same for the four functions."""

    def assert_all(self, error, fields, town, rule):
        for function in (more_clubs, is_full, filled):
            self.assert_error(error, fields, function, town, rule)
        for value in (town, (2, ()), None, [rule]):
            self.assert_error(error, fields, shows_filled, town, rule, value)

    def test_bad_town(self):
        for value, part in NO_TOWNS:
            for rule in WORD_PAIRS:
                self.assert_all(BadTown, {"part": part}, value, rule)

    def test_strange_towns(self):
        for value in STRANGE_VALUES:
            self.assert_all(BadTown, {}, value, ODD_ODD)

    def test_bad_rule(self):
        for value in NO_RULES:
            self.assert_all(BadRule, {}, (2, ()), value)

    def test_breaks_rule(self):
        for town in small_towns(2):
            for rule in WORD_PAIRS:
                if told_breach(town, rule) is not None:
                    self.assert_all(BreaksRule, {}, town, rule)

    def test_breaks_rule_by_size_and_by_what_two_share(self):
        self.assert_all(BreaksRule, {}, (3, ((0, 1, 2),)), EVEN_EVEN)
        self.assert_all(BreaksRule, {}, (3, ((0, 1), (0, 2))), EVEN_EVEN)
        self.assert_all(BreaksRule, {}, (3, ((),)), ODD_EVEN)
        self.assert_all(BreaksRule, {}, (4, ((0, 1), (2, 3))), EVEN_ODD)
        self.assert_all(BreaksRule, {}, (8, ((0,), (1,), (1, 6, 7))), ODD_EVEN)
        self.assert_all(BreaksRule, {}, (8, tuple(all_clubs(8))), ODD_ODD)

    def test_the_town_is_told_ahead_of_the_rule(self):
        for value, part in NO_TOWNS:
            for rule in (None, ("odd", "none"), ["odd", "odd"], True):
                self.assert_all(BadTown, {"part": part}, value, rule)

    def test_a_bad_rule_is_told_ahead_of_one_that_is_not_kept(self):
        breaks_all = (3, ((0,), (0, 1)))
        for value in NO_RULES:
            self.assert_all(BadRule, {}, breaks_all, value)

    def test_a_shown_value_keeps_no_error_back(self):
        for value in STRANGE_VALUES + (TOWN, (1, ()), (3, ((0, 1), (0, 2), (1, 2)))):
            self.assert_error(BadTown, {"part": "people"}, shows_filled, (0, ()), EVEN_ODD, value)
            self.assert_error(BadRule, {}, shows_filled, (3, ()), ("even", "none"), value)
            self.assert_error(BreaksRule, {}, shows_filled, (3, ((0,),)), EVEN_ODD, value)


class MoreClubsTest(ProgramCase):
    def test_values(self):
        self.assert_same(self.answer(more_clubs, (1, ()), EVEN_EVEN), ((),))
        self.assert_same(self.answer(more_clubs, (1, ()), ODD_ODD), ((0,),))
        self.assert_same(self.answer(more_clubs, (3, ()), EVEN_ODD), ((), (0, 1), (0, 2), (1, 2)))
        self.assert_same(self.answer(more_clubs, (3, ()), ODD_EVEN), ((0,), (0, 1, 2), (1,), (2,)))
        self.assert_same(self.answer(more_clubs, (4, ((0, 1),)), EVEN_EVEN), ((), (0, 1, 2, 3), (2, 3)))
        self.assert_same(self.answer(more_clubs, (4, ((0, 1),)), EVEN_ODD), ((0, 2), (0, 3), (1, 2), (1, 3)))
        self.assert_same(self.answer(more_clubs, (4, ((0, 1, 2),)), ODD_ODD), ((0,), (1,), (2,)))
        self.assert_same(self.answer(more_clubs, TOWN, EVEN_ODD), ())

    def test_a_club_of_the_town_is_not_among_them(self):
        self.assert_same(self.answer(more_clubs, (2, ((),)), EVEN_EVEN), ((0, 1),))
        self.assert_same(self.answer(more_clubs, (2, ((0,),)), ODD_ODD), ())
        self.assert_same(self.answer(more_clubs, (3, ((0, 1),)), EVEN_ODD), ((0, 2), (1, 2)))

    def test_a_club_of_none_shares_evenly_with_all(self):
        for people in range(1, 9):
            self.assert_same(self.answer(more_clubs, (people, ((),)), EVEN_ODD), ())
            expected = tuple(club for club in all_clubs(people) if club and len(club) % 2 == 0)
            self.assert_same(self.answer(more_clubs, (people, ((),)), EVEN_EVEN), expected)

    def test_towns_without_clubs(self):
        for people in range(1, 9):
            for rule in WORD_PAIRS:
                expected = tuple(club for club in all_clubs(people) if len(club) % 2 == (rule[0] == "odd"))
                self.assert_same(self.answer(more_clubs, (people, ()), rule), expected)

    def test_all_small_towns(self):
        for town, rule in small_kept_towns():
            self.check_by_definition(town, rule)

    def test_towns_of_four_with_three_clubs(self):
        for town, rule in small_kept_towns(4, 3):
            self.check_by_definition(town, rule)

    def test_towns_of_more_people(self):
        for town, rule in GROWING:
            self.check_by_definition(town, rule)

    def test_equal_arguments_have_equal_answers(self):
        for town, rule in GROWING:
            alike = (town[0], tuple([tuple(list(club)) for club in town[1]]))
            self.assert_same(more_clubs(alike, rule), more_clubs(town, rule))
            self.assert_same(is_full(alike, rule), is_full(town, rule))

    def check_by_definition(self, town, rule):
        expected = told_more(town, rule)
        self.assert_same(self.answer(more_clubs, town, rule), expected)
        self.assert_same(self.answer(is_full, town, rule), expected == ())


class IsFullTest(ProgramCase):
    def test_values(self):
        self.assert_same(self.answer(is_full, (1, ()), EVEN_ODD), False)
        self.assert_same(self.answer(is_full, (1, ((),)), EVEN_ODD), True)
        self.assert_same(self.answer(is_full, TOWN, EVEN_ODD), True)
        self.assert_same(self.answer(is_full, (4, ((0, 1), (0, 2), (0, 3))), EVEN_ODD), True)
        self.assert_same(self.answer(is_full, (5, ((0, 1), (0, 2), (0, 3), (0, 4))), EVEN_ODD), False)
        self.assert_same(self.answer(is_full, (8, ((0, 1, 2, 3, 4, 5, 6),)), ODD_EVEN), False)
        self.assert_same(self.answer(is_full, (7, ((0, 1, 2, 3, 4, 5, 6),)), ODD_EVEN), True)

    def test_a_full_town_with_fewer_clubs_than_the_most(self):
        self.assert_same(self.answer(is_full, (5, ((0, 1), (0, 2), (1, 2))), EVEN_ODD), True)
        self.assert_same(self.answer(is_full, (5, ((),)), EVEN_ODD), True)
        self.assert_same(self.answer(is_full, (3, ((0, 1, 2),)), ODD_EVEN), True)

    def test_odd_clubs_that_share_evenly_are_full_if_all_are_in_oddly_many(self):
        for town, rule in small_kept_towns(4, 4):
            if rule == ODD_EVEN:
                people, clubs = town
                odd = [sum(person in club for club in clubs) % 2 == 1 for person in range(people)]
                self.assert_same(self.answer(is_full, town, rule), all(odd))

    def test_by_two_rules_full_towns_have_just_so_many_clubs(self):
        for town, rule in small_kept_towns(4, 4):
            if rule in SAME_MANY:
                expected = len(town[1]) == SAME_MANY[rule][town[0] - 1]
                self.assert_same(self.answer(is_full, town, rule), expected)


class FilledTest(ProgramCase):
    def test_where_there_is_one_value(self):
        self.assert_same(self.answer(filled, (1, ()), EVEN_EVEN), (1, ((),)))
        self.assert_same(self.answer(filled, (1, ()), EVEN_ODD), (1, ((),)))
        self.assert_same(self.answer(filled, (1, ()), ODD_EVEN), (1, ((0,),)))
        self.assert_same(self.answer(filled, (1, ()), ODD_ODD), (1, ((0,),)))
        self.assert_same(self.answer(filled, (4, ((0, 1),)), EVEN_EVEN), (4, ((), (0, 1), (0, 1, 2, 3), (2, 3))))
        self.assert_same(self.answer(filled, (3, ((1,),)), ODD_EVEN), (3, ((0,), (1,), (2,))))
        self.assert_same(self.answer(filled, (3, ((0, 2),)), EVEN_ODD), (3, ((0, 1), (0, 2), (1, 2))))
        self.assert_same(self.answer(filled, (3, ((2,),)), ODD_ODD), (3, ((0, 1, 2), (2,))))

    def test_a_full_town_is_itself(self):
        full = (
            (TOWN, EVEN_ODD), ((3, ((0, 1, 2),)), ODD_EVEN), ((2, ((1,),)), ODD_ODD), ((2, ((), (0, 1))), EVEN_EVEN),
            ((5, ((),)), EVEN_ODD),
        )
        for town, rule in full:
            self.assert_same(self.answer(filled, town, rule), town)
            self.assert_same(self.answer(shows_filled, town, rule, town), True)

    def test_towns_without_clubs(self):
        for people in range(1, 9):
            for rule in WORD_PAIRS:
                self.check_by_definition((people, ()), rule)

    def test_all_small_towns(self):
        for town, rule in small_kept_towns():
            self.check_by_definition(town, rule)

    def test_towns_of_four_with_three_clubs(self):
        for town, rule in small_kept_towns(4, 3):
            self.check_by_definition(town, rule)

    def test_towns_of_more_people(self):
        for town, rule in GROWING:
            self.check_by_definition(town, rule)

    def check_by_definition(self, town, rule):
        people, clubs = town
        value = self.answer(filled, town, rule)
        self.assertIs(type(value), tuple)
        self.assertEqual((len(value), value[0]), (2, people))
        self.assert_same(value[1], tuple(sorted(set(value[1]))))
        self.assertLessEqual(set(value[1]), set(all_clubs(people)))
        self.assertLessEqual(set(clubs), set(value[1]))
        self.assert_same(told_breach(value, rule), None)
        self.assert_same(told_more(value, rule), ())
        self.assert_same(self.answer(shows_filled, town, rule, value), True)
        if rule in SAME_MANY:
            self.assertEqual(len(value[1]), SAME_MANY[rule][people - 1])


class ShowsFilledTest(ProgramCase):
    def assert_shown(self, expected, town, rule, value):
        self.assert_same(self.answer(shows_filled, town, rule, value), expected)

    def test_each_full_town_with_all_clubs_is_shown(self):
        self.assert_shown(True, (3, ()), ODD_EVEN, (3, ((0,), (1,), (2,))))
        self.assert_shown(True, (3, ()), ODD_EVEN, (3, ((0, 1, 2),)))
        for pair in ((0, 1), (0, 2), (1, 2)):
            self.assert_shown(True, (3, ()), EVEN_EVEN, (3, ((), pair)))
        self.assert_shown(True, (5, ()), EVEN_ODD, (5, ((),)))
        self.assert_shown(True, (5, ((0, 1),)), EVEN_ODD, (5, ((0, 1), (0, 2), (1, 2))))
        self.assert_shown(True, (5, ((0, 1),)), EVEN_ODD, (5, ((0, 1), (0, 2), (0, 3), (0, 4), (1, 2, 3, 4))))

    def test_all_pairs_of_small_towns(self):
        towns = list(small_towns(3, 4))
        for rule in WORD_PAIRS:
            kept = [town for town in towns if told_breach(town, rule) is None]
            full = [town for town in kept if told_more(town, rule) == ()]
            for town in kept:
                expected = [value for value in full if value[0] == town[0] and set(town[1]) <= set(value[1])]
                for value in towns:
                    self.assert_same(shows_filled(town, rule, value), value in expected)

    def test_towns_of_four_by_odd_and_even(self):
        clubs = [club for club in all_clubs(4) if len(club) % 2 == 1]
        singles = ((0,), (1,), (2,), (3,))
        threes = ((0, 1, 2), (0, 1, 3), (0, 2, 3), (1, 2, 3))
        mixed = [tuple(sorted((club, other))) for club in threes for other in singles if not set(club) & set(other)]
        full = [singles, threes] + mixed
        for many in range(5):
            for chosen in combinations(clubs, many):
                self.assert_shown(chosen in full, (4, ()), ODD_EVEN, (4, chosen))

    def test_values_of_every_kind(self):
        for value in STRANGE_VALUES + NO_RULES + tuple(value for value, _ in NO_TOWNS):
            for town, rule in (((2, ()), ODD_EVEN), ((3, ((0, 1),)), EVEN_ODD), GROWING[0], GROWING[3]):
                self.assert_shown(False, town, rule, value)

    def test_values_that_look_like_the_right_one(self):
        right = (2, ((0,), (1,)))
        self.assert_shown(True, (2, ()), ODD_EVEN, right)
        values = (
            [2, ((0,), (1,))], (2, [(0,), (1,)]), (2, ([0], [1])), (2, ((0,), [1])), (2, ((1,), (0,))), ((0,), (1,)),
            (2, ((0,), (0,), (1,))), (2, ((0,), (1,)), ()), (2, ((0,), (True,))), (2, ((False,), (1,))), (right,),
            (2, (0, 1)), (2, {(0,): 1, (1,): 1}), {2: ((0,), (1,))}, ("2", ((0,), (1,))), "people 2\nclub 0\nclub 1",
        )
        for value in values:
            self.assert_shown(False, (2, ()), ODD_EVEN, value)
        self.assert_shown(True, (1, ()), ODD_ODD, (1, ((0,),)))
        self.assert_shown(False, (1, ()), ODD_ODD, (True, ((0,),)))
        self.assert_shown(False, (1, ()), ODD_ODD, (1, ((False,),)))

    def test_a_club_of_the_town_is_lacking(self):
        self.assert_shown(False, (3, ((0,),)), ODD_EVEN, (3, ((0, 1, 2),)))
        self.assert_shown(False, (3, ((0, 1),)), EVEN_EVEN, (3, ((), (0, 2))))
        self.assert_shown(False, (2, ((0,),)), ODD_ODD, (2, ((1,),)))
        self.assert_shown(False, (5, ((0, 1), (2, 3))), EVEN_EVEN, (5, ((), (0, 1), (0, 1, 2, 4), (2, 4))))
        self.assert_shown(False, (4, ((0, 1), (0, 3))), EVEN_ODD, TOWN)

    def test_a_town_that_is_not_full(self):
        self.assert_shown(False, (3, ()), ODD_EVEN, (3, ()))
        self.assert_shown(False, (3, ((0,),)), ODD_EVEN, (3, ((0,),)))
        self.assert_shown(False, (3, ((0,),)), ODD_EVEN, (3, ((0,), (2,))))
        self.assert_shown(False, (4, ()), EVEN_EVEN, (4, ((0, 1), (0, 1, 2, 3), (2, 3))))
        for town, rule in GROWING:
            self.assert_shown(False, town, rule, town)
            for club in told_more(town, rule):
                grown = with_club(town, club)
                self.assert_shown(told_more(grown, rule) == (), town, rule, grown)

    def test_a_town_that_breaks_the_rule(self):
        self.assert_shown(False, (3, ()), ODD_EVEN, (3, ((0,), (0, 1, 2), (1,), (2,))))
        self.assert_shown(False, (3, ()), EVEN_EVEN, (3, ((), (0, 1), (0, 2))))
        self.assert_shown(False, (2, ()), ODD_ODD, (2, ((0,), (1,))))
        for people in range(1, 9):
            for rule in WORD_PAIRS:
                self.assert_shown(False, (people, ()), rule, (people, tuple(all_clubs(people))))

    def test_another_number_of_people(self):
        self.assert_shown(False, (2, ()), ODD_EVEN, (3, ((0,), (1,), (2,))))
        self.assert_shown(False, (3, ()), ODD_EVEN, (2, ((0,), (1,))))
        self.assert_shown(False, (3, ()), EVEN_EVEN, (2, ((), (0, 1))))
        self.assert_shown(False, (2, ((0, 1),)), EVEN_EVEN, (3, ((), (0, 1))))
        self.assert_shown(False, (3, ((0, 1), (0, 2))), EVEN_ODD, TOWN)


if __name__ == "__main__":
    unittest.main()
