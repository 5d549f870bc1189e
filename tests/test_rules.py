"""Point 3: all_rules, keeps, rules_kept and breaking, with BadRule."""

import unittest

from fourtowns.errors import BadRule, BadTown
from fourtowns.rules import all_rules, breaking, keeps, rules_kept
from helper import NO_RULES, STRANGE_VALUES, WORD_PAIRS, ProgramCase, all_clubs, small_towns, told_breach

TOWN = (4, ((0, 1), (0, 2), (1, 2)))

EVEN_EVEN, EVEN_ODD, ODD_EVEN, ODD_ODD = WORD_PAIRS


class ExamplesTest(ProgramCase):
    def test_values(self):
        found = [rules_kept(TOWN), keeps(TOWN, ODD_EVEN), breaking(TOWN, EVEN_EVEN), breaking(TOWN, ODD_ODD)]
        self.assert_same(found, [(("even", "odd"),), False, ((0, 1), (0, 2)), ((0, 1),)])

    def test_error(self):
        self.assert_error(BadRule, {}, keeps, (1, ()), ("odd", "none"))


class AllRulesTest(ProgramCase):
    def test_the_four_ascending(self):
        self.assert_same(all_rules(), (("even", "even"), ("even", "odd"), ("odd", "even"), ("odd", "odd")))


class BadRuleTest(ProgramCase):
    def test_no_rules(self):
        for value in NO_RULES:
            self.assert_error(BadRule, {}, keeps, TOWN, value)
            self.assert_error(BadRule, {}, breaking, TOWN, value)

    def test_no_rules_of_a_town_without_clubs(self):
        for value in NO_RULES:
            self.assert_error(BadRule, {}, keeps, (1, ()), value)
            self.assert_error(BadRule, {}, breaking, (1, ()), value)

    def test_the_four_are_taken(self):
        for rule in WORD_PAIRS:
            self.assert_same(self.answer(keeps, (1, ()), rule), True)


class BadTownTest(ProgramCase):
    def test_parts(self):
        for value, part in (([4, ()], "whole"), ((9, ()), "people"), ((2, ((1,), (0,))), "clubs")):
            self.assert_error(BadTown, {"part": part}, rules_kept, value)
            for rule in WORD_PAIRS:
                self.assert_error(BadTown, {"part": part}, keeps, value, rule)
                self.assert_error(BadTown, {"part": part}, breaking, value, rule)

    def test_the_first_of_several_parts(self):
        for value, part in (([0, []], "whole"), ((0, []), "people"), ((True, ((0, 0),)), "people")):
            self.assert_error(BadTown, {"part": part}, rules_kept, value)
            self.assert_error(BadTown, {"part": part}, keeps, value, ODD_ODD)
            self.assert_error(BadTown, {"part": part}, breaking, value, ODD_ODD)

    def test_the_town_is_told_ahead_of_the_rule(self):
        for value, part in ((None, "whole"), ((0, ()), "people"), ((2, ((0,), (0,))), "clubs")):
            for rule in (None, ("odd", "none"), ["odd", "odd"]):
                self.assert_error(BadTown, {"part": part}, keeps, value, rule)
                self.assert_error(BadTown, {"part": part}, breaking, value, rule)

    def test_strange_values(self):
        for value in STRANGE_VALUES:
            self.assert_error(BadTown, {}, rules_kept, value)
            self.assert_error(BadTown, {}, keeps, value, EVEN_EVEN)
            self.assert_error(BadTown, {}, breaking, value, EVEN_EVEN)


class KeptTest(ProgramCase):
    def test_a_town_for_each_rule(self):
        towns = (
            ((4, ((), (0, 1), (0, 1, 2, 3), (2, 3))), EVEN_EVEN),
            (TOWN, EVEN_ODD),
            ((4, ((0, 1, 2), (0, 1, 3), (0, 2, 3), (1, 2, 3))), ODD_EVEN),
            ((5, ((0,), (0, 1, 2), (0, 1, 2, 3, 4), (0, 3, 4))), ODD_ODD),
        )
        for town, rule in towns:
            for other in WORD_PAIRS:
                self.assert_same(self.answer(keeps, town, other), other == rule)
            self.assert_same(self.answer(breaking, town, rule), None)
            self.assert_same(self.answer(rules_kept, town), (rule,))

    def test_a_town_without_clubs_keeps_all(self):
        for people in (1, 5, 8):
            self.assert_same(self.answer(rules_kept, (people, ())), WORD_PAIRS)
            for rule in WORD_PAIRS:
                self.assert_same(self.answer(keeps, (people, ()), rule), True)
                self.assert_same(self.answer(breaking, (people, ()), rule), None)

    def test_a_town_with_one_club_keeps_the_rules_of_its_size(self):
        for club in all_clubs(4):
            expected = (ODD_EVEN, ODD_ODD) if len(club) % 2 else (EVEN_EVEN, EVEN_ODD)
            self.assert_same(self.answer(rules_kept, (4, (club,))), expected)
            for rule in WORD_PAIRS:
                self.assert_same(self.answer(keeps, (4, (club,)), rule), rule in expected)
                self.assert_same(self.answer(breaking, (4, (club,)), rule), None if rule in expected else (club,))

    def test_a_club_of_none_has_an_even_size(self):
        self.assert_same(self.answer(rules_kept, (3, ((), (0, 1)))), (EVEN_EVEN,))

    def test_a_town_that_keeps_none(self):
        self.assert_same(self.answer(rules_kept, (3, ((0,), (0, 1)))), ())


class BreakingTest(ProgramCase):
    def test_by_size(self):
        self.assert_same(self.answer(breaking, (3, ((0, 1), (2,))), EVEN_EVEN), ((2,),))
        self.assert_same(self.answer(breaking, (3, ((0,), (1, 2))), ODD_EVEN), ((1, 2),))
        self.assert_same(self.answer(breaking, (3, ((),)), ODD_ODD), ((),))

    def test_by_what_two_have_in_common(self):
        self.assert_same(self.answer(breaking, (3, ((0, 1), (0, 2))), EVEN_EVEN), ((0, 1), (0, 2)))
        self.assert_same(self.answer(breaking, (4, ((0, 1), (2, 3))), EVEN_ODD), ((0, 1), (2, 3)))
        self.assert_same(self.answer(breaking, (3, ((0,), (0, 1, 2))), ODD_EVEN), ((0,), (0, 1, 2)))
        self.assert_same(self.answer(breaking, (3, ((0,), (1,))), ODD_ODD), ((0,), (1,)))

    def test_a_wrong_size_ahead_of_two_that_share_wrongly(self):
        town = (4, ((0, 1), (0, 2), (1, 2, 3)))
        self.assert_same(self.answer(breaking, town, EVEN_EVEN), ((1, 2, 3),))
        town = (4, ((0,), (0, 1, 2), (1, 3)))
        self.assert_same(self.answer(breaking, town, ODD_EVEN), ((1, 3),))

    def test_the_first_of_several_wrong_sizes(self):
        self.assert_same(self.answer(breaking, (3, ((0, 1), (1,), (2,))), EVEN_ODD), ((1,),))
        self.assert_same(self.answer(breaking, (3, ((0,), (0, 2), (1, 2))), ODD_ODD), ((0, 2),))

    def test_the_first_two_of_several(self):
        town = (6, ((0, 1), (0, 1, 2, 3), (0, 2, 4, 5), (2, 4)))
        self.assert_same(self.answer(breaking, town, EVEN_EVEN), ((0, 1), (0, 2, 4, 5)))
        town = (6, ((0, 1), (0, 2), (2, 3), (4, 5)))
        self.assert_same(self.answer(breaking, town, EVEN_ODD), ((0, 1), (2, 3)))
        town = (5, ((0,), (0, 1, 2), (1,), (2,)))
        self.assert_same(self.answer(breaking, town, ODD_EVEN), ((0,), (0, 1, 2)))
        self.assert_same(self.answer(breaking, town, ODD_ODD), ((0,), (1,)))

    def test_the_earlier_club_counts_ahead_of_the_later_one(self):
        # (0, 1) and (4, 5) share wrongly, and so do (0, 2) and (1, 3), which stand between them.
        town = (6, ((0, 1), (0, 2), (1, 3), (4, 5)))
        self.assert_same(self.answer(breaking, town, EVEN_ODD), ((0, 1), (4, 5)))

    def test_two_that_are_not_side_by_side(self):
        town = (5, ((0, 1), (0, 1, 2, 3), (1, 4)))
        self.assert_same(self.answer(breaking, town, EVEN_EVEN), ((0, 1), (1, 4)))

    def test_all_small_towns(self):
        for town in small_towns():
            self.check_by_definition(town)

    def test_towns_of_four_with_three_clubs(self):
        for town in small_towns(4, 3):
            self.check_by_definition(town)

    def test_the_town_with_all_clubs(self):
        self.check_by_definition((8, tuple(all_clubs(8))))

    def check_by_definition(self, town):
        kept = []
        for rule in WORD_PAIRS:
            expected = told_breach(town, rule)
            self.assert_same(self.answer(breaking, town, rule), expected)
            self.assert_same(self.answer(keeps, town, rule), expected is None)
            if expected is None:
                kept.append(rule)
        self.assert_same(self.answer(rules_kept, town), tuple(kept))


if __name__ == "__main__":
    unittest.main()
