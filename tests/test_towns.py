"""Point 2: is_town, members and shared, with BadTown and BadClub."""

import unittest
from itertools import permutations

from fourtowns.errors import BadClub, BadTown
from fourtowns.towns import is_town, members, shared
from helper import NO_CLUBS_OF_FOUR, NO_TOWNS, STRANGE_VALUES, ProgramCase, all_clubs, small_towns

TOWN = (4, ((0, 1), (0, 2), (1, 2)))


class ExamplesTest(ProgramCase):
    def test_values(self):
        found = [members(TOWN), shared(TOWN, (0, 1), (1, 2, 3)), is_town((2, ((1,), (0,))))]
        self.assert_same(found, [(2, 2, 2, 0), (1,), False])

    def test_error(self):
        self.assert_error(BadTown, {"part": "clubs"}, members, (2, ((0,), (0,))))


class IsTownTest(ProgramCase):
    def test_towns(self):
        towns = (
            (1, ()), (8, ()), (1, ((),)), (1, ((0,),)), (1, ((), (0,))), (8, ((7,),)), (8, (tuple(range(8)),)),
            (2, ((), (0,), (0, 1), (1,))), (3, ((0,), (0, 1, 2), (0, 2), (1,))), TOWN, (8, tuple(all_clubs(8))),
        )
        for town in towns:
            self.assert_same(self.answer(is_town, town), True)

    def test_all_small_towns(self):
        for town in small_towns():
            self.assert_same(is_town(town), True)

    def test_clubs_in_any_other_order_are_no_town(self):
        for people, clubs in small_towns(3, 3):
            for other in permutations(clubs):
                self.assert_same(is_town((people, other)), other == clubs)

    def test_people_of_a_club_in_any_other_order_are_no_club(self):
        for other in permutations((0, 2, 3)):
            self.assert_same(is_town((4, (other,))), other == (0, 2, 3))

    def test_no_towns(self):
        for value, _ in NO_TOWNS:
            self.assert_same(self.answer(is_town, value), False)

    def test_strange_values(self):
        for value in STRANGE_VALUES:
            self.assert_same(self.answer(is_town, value), False)
            self.assert_same(self.answer(is_town, (value, value)), False)
            self.assert_same(self.answer(is_town, [value]), False)
            self.assert_same(self.answer(is_town, {"town": value}), False)

    def test_numbers_of_people(self):
        for people in range(-3, 13):
            self.assert_same(is_town((people, ())), 1 <= people <= 8)

    def test_persons_below_the_number_of_people(self):
        for people in range(1, 9):
            self.assertTrue(is_town((people, ((people - 1,),))))
            self.assertFalse(is_town((people, ((people,),))))


class BadTownTest(ProgramCase):
    def test_parts_by_members(self):
        for value, part in NO_TOWNS:
            self.assert_error(BadTown, {"part": part}, members, value)

    def test_parts_by_shared(self):
        for value, part in NO_TOWNS:
            self.assert_error(BadTown, {"part": part}, shared, value, (), ())

    def test_the_town_is_told_ahead_of_the_clubs(self):
        for value, part in NO_TOWNS:
            self.assert_error(BadTown, {"part": part}, shared, value, (9,), (0,))
            self.assert_error(BadTown, {"part": part}, shared, value, (0,), None)


class MembersTest(ProgramCase):
    def test_values(self):
        self.assert_same(self.answer(members, (1, ())), (0,))
        self.assert_same(self.answer(members, (3, ())), (0, 0, 0))
        self.assert_same(self.answer(members, (2, ((),))), (0, 0))
        self.assert_same(self.answer(members, (3, ((), (0,), (0, 2)))), (2, 0, 1))
        self.assert_same(self.answer(members, (8, tuple(all_clubs(8)))), (128,) * 8)

    def test_all_small_towns(self):
        for town in small_towns():
            people, clubs = town
            expected = tuple(sum(club.count(person) for club in clubs) for person in range(people))
            self.assert_same(self.answer(members, town), expected)


class SharedTest(ProgramCase):
    def test_clubs_of_the_town(self):
        self.assert_same(self.answer(shared, TOWN, (0, 1), (0, 2)), (0,))
        self.assert_same(self.answer(shared, TOWN, (1, 2), (0, 2)), (2,))

    def test_clubs_that_are_not_in_the_town(self):
        self.assert_same(self.answer(shared, (4, ()), (0, 1, 3), (0, 2, 3)), (0, 3))
        self.assert_same(self.answer(shared, TOWN, (3,), (0, 1, 2, 3)), (3,))
        self.assert_same(self.answer(shared, TOWN, (0, 1), (2, 3)), ())

    def test_a_club_with_itself_and_with_no_people(self):
        self.assert_same(self.answer(shared, TOWN, (0, 1), (0, 1)), (0, 1))
        self.assert_same(self.answer(shared, TOWN, (), ()), ())
        self.assert_same(self.answer(shared, TOWN, (), (0, 1)), ())
        self.assert_same(self.answer(shared, TOWN, (0, 1), ()), ())

    def test_all_pairs_of_clubs(self):
        clubs = all_clubs(4)
        for one in clubs:
            for other in clubs:
                expected = tuple(sorted(set(one) & set(other)))
                self.assert_same(self.answer(shared, TOWN, one, other), expected)

    def test_bad_second_argument(self):
        for value in NO_CLUBS_OF_FOUR:
            self.assert_error(BadClub, {}, shared, TOWN, value, (0, 1))

    def test_bad_third_argument(self):
        for value in NO_CLUBS_OF_FOUR:
            self.assert_error(BadClub, {}, shared, TOWN, (0, 1), value)

    def test_strange_values(self):
        for value in STRANGE_VALUES:
            self.assert_error(BadClub, {}, shared, (8, ()), value, ())
            self.assert_error(BadClub, {}, shared, (8, ()), (), value)

    def test_both_bad(self):
        for value in NO_CLUBS_OF_FOUR:
            self.assert_error(BadClub, {}, shared, TOWN, value, value)

    def test_a_person_of_a_greater_town(self):
        self.assert_error(BadClub, {}, shared, (1, ()), (1,), ())
        self.assert_error(BadClub, {}, shared, (1, ()), (), (0, 1))
        self.assert_same(self.answer(shared, (2, ()), (1,), (0, 1)), (1,))


if __name__ == "__main__":
    unittest.main()
