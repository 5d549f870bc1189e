"""Point 7: summed, total, sums, dimension, is_sum and beside, with BadTown and BadClub."""

import unittest
from itertools import combinations

from fourtowns.errors import BadClub, BadTown
from fourtowns.rules import rules_kept
from fourtowns.sums import beside, dimension, is_sum, summed, sums, total
from helper import NO_CLUBS_OF_FOUR, NO_TOWNS, STRANGE_VALUES, WORD_PAIRS, ProgramCase, all_clubs, small_towns

TOWN = (4, ((0, 1), (0, 2), (1, 2)))

# A town of eight that keeps the rule, with its dimension, for each of the rules.
EIGHT = {
    ("even", "even"): ((8, ((), (0, 1), (0, 1, 2, 3), (0, 1, 4, 5), (2, 3))), 3),
    ("even", "odd"): ((8, ((0, 1), (0, 2), (0, 3), (0, 4, 5, 6))), 4),
    ("odd", "even"): ((8, ((0, 1, 2), (0, 1, 3), (4,), (5, 6, 7))), 4),
    ("odd", "odd"): ((8, ((0, 1, 2, 3, 7), (0, 1, 7), (2, 3, 7), (7,))), 3),
}


def told_sum(people, clubs):
    """The people who are in oddly many of the clubs."""
    return tuple(person for person in range(people) if sum(person in club for club in clubs) % 2 == 1)


def told_sums(town):
    """The sums of each choice of clubs of a town, ascending."""
    people, clubs = town
    choices = [chosen for many in range(len(clubs) + 1) for chosen in combinations(clubs, many)]
    return tuple(sorted({told_sum(people, chosen) for chosen in choices}))


def told_beside(town):
    """What beside has to return, by the words of the document."""
    people, clubs = town
    return tuple(club for club in all_clubs(people) if all(len(set(club) & set(other)) % 2 == 0 for other in clubs))


class ExamplesTest(ProgramCase):
    def test_values(self):
        found = [
            summed(TOWN, (0, 1, 3), (1, 2)), total(TOWN), dimension(TOWN), beside(TOWN), is_sum(TOWN, (0, 3)),
            sums((3, ((0, 1), (1, 2)))),
        ]
        expected = [
            (0, 2, 3), (), 2, ((), (0, 1, 2), (0, 1, 2, 3), (3,)), False, ((), (0, 1), (0, 2), (1, 2)),
        ]
        self.assert_same(found, expected)

    def test_error(self):
        self.assert_error(BadClub, {}, is_sum, (2, ()), (2,))


class ArgumentsTest(ProgramCase):
    def assert_bad_town(self, fields, value):
        for function in (total, sums, dimension, beside):
            self.assert_error(BadTown, fields, function, value)
        for club in ((), (0,), (9,), [0], None):
            self.assert_error(BadTown, fields, is_sum, value, club)
            self.assert_error(BadTown, fields, summed, value, club, ())
            self.assert_error(BadTown, fields, summed, value, (), club)

    def test_bad_town_ahead_of_bad_clubs(self):
        for value, part in NO_TOWNS:
            self.assert_bad_town({"part": part}, value)

    def test_strange_towns(self):
        for value in STRANGE_VALUES:
            self.assert_bad_town({}, value)

    def test_bad_club(self):
        for value in NO_CLUBS_OF_FOUR:
            for town in (TOWN, (4, ()), (4, ((),))):
                self.assert_error(BadClub, {}, is_sum, town, value)
                self.assert_error(BadClub, {}, summed, town, value, (0, 1))
                self.assert_error(BadClub, {}, summed, town, (0, 1), value)
                self.assert_error(BadClub, {}, summed, town, value, value)

    def test_strange_clubs(self):
        for value in STRANGE_VALUES:
            self.assert_error(BadClub, {}, is_sum, (8, ()), value)
            self.assert_error(BadClub, {}, summed, (8, ()), value, ())
            self.assert_error(BadClub, {}, summed, (8, ()), (), value)

    def test_a_person_of_a_greater_town(self):
        for people in range(1, 9):
            self.assert_error(BadClub, {}, is_sum, (people, ()), (people,))
            self.assert_error(BadClub, {}, summed, (people, ()), (people,), ())
            self.assert_error(BadClub, {}, summed, (people, ()), (), (people,))
            self.assert_same(self.answer(summed, (people, ()), (people - 1,), ()), (people - 1,))

    def test_clubs_that_look_like_a_sum(self):
        for value in (["0"], [0, 1], "01", (False, 1), (0, True), {0: 1}, None, (1, 0)):
            self.assert_error(BadClub, {}, is_sum, TOWN, value)


class SummedTest(ProgramCase):
    def test_values(self):
        self.assert_same(self.answer(summed, TOWN, (0, 1), (0, 2)), (1, 2))
        self.assert_same(self.answer(summed, (8, ()), (0, 2, 4, 6), (1, 3, 5, 7)), (0, 1, 2, 3, 4, 5, 6, 7))
        self.assert_same(self.answer(summed, (8, ()), (4, 5, 6), (0, 5, 7)), (0, 4, 6, 7))

    def test_alike(self):
        for club in all_clubs(4):
            self.assert_same(self.answer(summed, TOWN, club, club), ())

    def test_with_a_club_of_none(self):
        for club in all_clubs(4):
            self.assert_same(self.answer(summed, TOWN, club, ()), club)
            self.assert_same(self.answer(summed, TOWN, (), club), club)

    def test_all_pairs_of_clubs(self):
        for people in range(1, 5):
            for one in all_clubs(people):
                for other in all_clubs(people):
                    expected = told_sum(people, (one, other))
                    for town in ((people, ()), (people, (other,)), (people, ((),))):
                        self.assert_same(self.answer(summed, town, one, other), expected)

    def test_all_clubs_of_eight_with_one(self):
        for one in all_clubs(8):
            expected = told_sum(8, (one, (0, 3, 4, 7)))
            self.assert_same(self.answer(summed, (8, ()), one, (0, 3, 4, 7)), expected)


class TownCase(ProgramCase):
    """All functions of a town at once, against an own count."""

    def check(self, town):
        people, clubs = town
        found = self.answer(sums, town)
        self.assert_same(found, told_sums(town))
        self.assert_same(self.answer(total, town), told_sum(people, clubs))
        size = self.answer(dimension, town)
        self.assertIs(type(size), int)
        self.assertEqual(len(found), 2 ** size)
        others = self.answer(beside, town)
        self.assert_same(others, told_beside(town))
        self.assertEqual(len(others), 2 ** (people - size))
        for club in all_clubs(people):
            self.assert_same(self.answer(is_sum, town, club), club in found)


class TownsTest(TownCase):
    def test_towns_without_clubs(self):
        for people in range(1, 9):
            town = (people, ())
            self.assert_same(self.answer(total, town), ())
            self.assert_same(self.answer(sums, town), ((),))
            self.assert_same(self.answer(dimension, town), 0)
            self.assert_same(self.answer(beside, town), tuple(all_clubs(people)))
            self.check(town)

    def test_towns_with_a_club_of_none(self):
        for people in range(1, 9):
            town = (people, ((),))
            self.assert_same(self.answer(total, town), ())
            self.assert_same(self.answer(sums, town), ((),))
            self.assert_same(self.answer(dimension, town), 0)
            self.assert_same(self.answer(beside, town), tuple(all_clubs(people)))
            self.check(town)

    def test_a_town_of_one(self):
        self.assert_same(self.answer(sums, (1, ((0,),))), ((), (0,)))
        self.assert_same(self.answer(sums, (1, ((), (0,)))), ((), (0,)))
        self.assert_same(self.answer(total, (1, ((), (0,)))), (0,))
        self.assert_same(self.answer(dimension, (1, ((), (0,)))), 1)
        self.assert_same(self.answer(beside, (1, ((0,),))), ((),))
        self.assert_same(self.answer(is_sum, (1, ()), (0,)), False)
        self.assert_same(self.answer(is_sum, (1, ()), ()), True)

    def test_all_clubs_of_eight(self):
        clubs = tuple(all_clubs(8))
        town = (8, clubs)
        self.assert_same(self.answer(sums, town), clubs)
        self.assert_same(self.answer(total, town), ())
        self.assert_same(self.answer(dimension, town), 8)
        self.assert_same(self.answer(beside, town), ((),))
        self.assert_same(self.answer(is_sum, town, (0, 3, 7)), True)

    def test_towns_of_eight_by_each_rule(self):
        for rule in WORD_PAIRS:
            town, size = EIGHT[rule]
            self.assertIn(rule, rules_kept(town))
            self.assert_same(self.answer(dimension, town), size)
            self.check(town)

    def test_all_small_towns(self):
        for town in small_towns():
            self.check(town)

    def test_towns_of_four_with_three_clubs(self):
        for town in small_towns(4, 3):
            self.check(town)

    def test_towns_of_more_people(self):
        self.check((5, ((0, 1, 2), (0, 3), (1, 2, 3), (1, 3, 4), (4,))))
        self.check((6, ((0, 1), (0, 5), (1, 2), (2, 3), (3, 4), (4, 5))))
        self.check((7, ((0, 1, 2), (0, 3, 4), (0, 5, 6), (1, 3, 5), (1, 4, 6), (2, 3, 6), (2, 4, 5))))
        self.check((8, ((0, 1, 2, 3), (0, 1, 4, 5), (0, 2, 4, 6), (0, 7), (7,))))

    def test_all_of_even_and_even_lies_beside_itself(self):
        clubs = tuple(sorted(told_sum(8, chosen) for many in range(5)
                             for chosen in combinations(((0, 1), (2, 3), (4, 5), (6, 7)), many)))
        self.assert_same(self.answer(sums, (8, clubs)), clubs)
        self.assert_same(self.answer(beside, (8, clubs)), clubs)
        self.assert_same(self.answer(dimension, (8, clubs)), 4)

    def test_equal_arguments_have_equal_answers(self):
        for town, _ in EIGHT.values():
            alike = (town[0], tuple([tuple(list(club)) for club in town[1]]))
            for function in (total, sums, dimension, beside):
                self.assert_same(function(alike), function(town))


if __name__ == "__main__":
    unittest.main()
