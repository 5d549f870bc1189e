"""Point 8: Townhall, with BadNumber, BadRule, BadClub, NoClub and NoStep."""

import unittest
from inspect import signature

from fourtowns.errors import BadClub, BadNumber, BadRule, NoClub, NoStep
from fourtowns.halls import Townhall
from helper import (
    NO_CLUBS_OF_FOUR, NO_INTEGERS, NO_RULES, STRANGE_VALUES, WORD_PAIRS, ProgramCase, all_clubs, told_kept,
)

EVEN_EVEN, EVEN_ODD, ODD_EVEN, ODD_ODD = WORD_PAIRS

# How many clubs at most for 1 to 8 people.
MOST = {
    EVEN_EVEN: (1, 2, 2, 4, 4, 8, 8, 16), EVEN_ODD: (1, 1, 3, 3, 5, 5, 7, 7),
    ODD_EVEN: (1, 2, 3, 4, 5, 6, 7, 8), ODD_ODD: (1, 1, 2, 2, 4, 4, 8, 8),
}

OUTSIDE = (0, -1, -8, 9, 10, 60, 10 ** 30, -10 ** 30)

# Clubs to add by each rule to a town of eight, not in the order of a town.
STEPS = {
    EVEN_EVEN: ((2, 3), (0, 1, 4, 5), (), (0, 1), (2, 3, 4, 5)),
    EVEN_ODD: ((0, 7), (0, 3), (0, 1, 2, 5), (0, 4)),
    ODD_EVEN: ((6,), (0, 1, 3), (0, 1, 2), (4, 5, 7)),
    ODD_ODD: ((2, 3, 7), (7,), (0, 1, 2, 3, 7), (4, 5, 7)),
}


def told_may(people, added, rule):
    """The clubs, ascending, that are not there and with which the rule is kept."""
    return tuple(club for club in all_clubs(people) if club not in added and told_kept(people, added + (club,), rule))


class HallCase(ProgramCase):
    def assert_hall(self, hall, people, rule, added):
        """The whole state of a hall, against an own count."""
        self.assert_same(hall.town, (people, tuple(sorted(added))))
        self.assert_same(hall.added, added)
        self.assert_same(hall.may(), told_may(people, added, rule))
        self.assert_same(hall.room(), MOST[rule][people - 1] - len(added))

    def hall_with(self, people, rule, clubs):
        hall = Townhall(people, rule)
        for club in clubs:
            self.assertIsNone(self.answer(hall.add, club))
        return hall


class ExamplesTest(ProgramCase):
    def test_values(self):
        hall = Townhall(3, ("odd", "even"))
        found = [
            hall.add((1,)), hall.may(), hall.room(), hall.add((0,)), hall.town, hall.added, hall.undo(), hall.added,
        ]
        expected = [None, ((0,), (2,)), 2, None, (3, ((0,), (1,))), ((1,), (0,)), None, ((1,),)]
        self.assert_same(found, expected)

    def test_error(self):
        self.assert_error(NoClub, {}, Townhall(3, ("odd", "even")).add, (0, 1))


class InterfaceTest(unittest.TestCase):
    def test_methods_and_properties_of_the_class_itself(self):
        for name, names in (("add", ["self", "club"]), ("undo", ["self"]), ("may", ["self"]), ("room", ["self"])):
            self.assertEqual(list(signature(vars(Townhall)[name]).parameters), names)
        for name in ("town", "added"):
            self.assertIsInstance(vars(Townhall)[name], property)
        self.assertEqual(Townhall.__module__, "fourtowns.halls")

    def test_keywords(self):
        hall = Townhall(rule=("odd", "odd"), people=2)
        hall.add(club=(1,))
        self.assertEqual(hall.town, (2, ((1,),)))


class NewHallTest(HallCase):
    def test_numbers_outside(self):
        for people in OUTSIDE:
            for rule in WORD_PAIRS:
                self.assert_error(BadNumber, {}, Townhall, people, rule)

    def test_no_integers(self):
        for value in NO_INTEGERS:
            for rule in WORD_PAIRS:
                self.assert_error(BadNumber, {}, Townhall, value, rule)

    def test_no_rules(self):
        for value in NO_RULES:
            for people in (1, 2, 7, 8):
                self.assert_error(BadRule, {}, Townhall, people, value)

    def test_the_number_is_told_ahead_of_the_rule(self):
        for value in NO_RULES:
            for people in OUTSIDE + NO_INTEGERS:
                self.assert_error(BadNumber, {}, Townhall, people, value)

    def test_without_clubs_at_first(self):
        for people in range(1, 9):
            for rule in WORD_PAIRS:
                hall = self.answer(Townhall, people, rule)
                self.assert_same(hall.town, (people, ()))
                self.assert_same(hall.added, ())
                size = 1 if rule[0] == "odd" else 0
                self.assert_same(hall.may(), tuple(club for club in all_clubs(people) if len(club) % 2 == size))
                self.assert_same(hall.room(), MOST[rule][people - 1])
                self.assert_error(NoStep, {}, hall.undo)
                self.assert_hall(hall, people, rule, ())

    def test_two_halls_have_nothing_in_common(self):
        one = Townhall(3, EVEN_EVEN)
        other = Townhall(3, EVEN_EVEN)
        one.add(())
        self.assert_hall(other, 3, EVEN_EVEN, ())
        other.add((0, 1))
        self.assert_hall(one, 3, EVEN_EVEN, ((),))
        one.undo()
        self.assert_hall(other, 3, EVEN_EVEN, ((0, 1),))


class AddTest(HallCase):
    def test_bad_club(self):
        for rule in WORD_PAIRS:
            hall = Townhall(4, rule)
            for value in NO_CLUBS_OF_FOUR:
                self.assert_error(BadClub, {}, hall.add, value)
            self.assert_hall(hall, 4, rule, ())

    def test_strange_clubs(self):
        hall = Townhall(8, ODD_EVEN)
        for value in STRANGE_VALUES:
            self.assert_error(BadClub, {}, hall.add, value)
        self.assert_hall(hall, 8, ODD_EVEN, ())

    def test_a_person_of_a_greater_town(self):
        for people in range(1, 9):
            hall = Townhall(people, ODD_ODD)
            self.assert_error(BadClub, {}, hall.add, (people,))
            self.assertIsNone(hall.add((people - 1,)))
            self.assert_hall(hall, people, ODD_ODD, ((people - 1,),))

    def test_a_bad_club_is_told_ahead_of_one_that_cannot_be_added(self):
        hall = self.hall_with(4, ODD_EVEN, ((0,), (1,)))
        for value in ([0], (False,), (0, 0), (1, 0), (0, 4), (0, True), "0", None, {0: 0}):
            self.assert_error(BadClub, {}, hall.add, value)
        self.assert_hall(hall, 4, ODD_EVEN, ((0,), (1,)))

    def test_a_club_that_is_there(self):
        for rule, clubs in STEPS.items():
            hall = self.hall_with(8, rule, clubs)
            for club in clubs:
                self.assert_error(NoClub, {}, hall.add, club)
            self.assert_hall(hall, 8, rule, clubs)

    def test_a_wrong_size(self):
        for people in range(1, 9):
            for rule in WORD_PAIRS:
                hall = Townhall(people, rule)
                self.assert_error(NoClub, {}, hall.add, () if rule[0] == "odd" else (0,))
                self.assert_hall(hall, people, rule, ())

    def test_clubs_that_share_wrongly(self):
        pairs = {
            EVEN_EVEN: ((0, 1), (1, 2)), EVEN_ODD: ((0, 1), (2, 3)), ODD_EVEN: ((0,), (0, 1, 2)), ODD_ODD: ((0,), (1,)),
        }
        for rule, (one, other) in pairs.items():
            hall = self.hall_with(8, rule, (one,))
            self.assert_error(NoClub, {}, hall.add, other)
            self.assert_hall(hall, 8, rule, (one,))

    def test_a_club_of_none(self):
        hall = self.hall_with(1, EVEN_EVEN, ((),))
        self.assert_hall(hall, 1, EVEN_EVEN, ((),))
        self.assert_error(NoClub, {}, hall.add, ())
        hall = self.hall_with(3, EVEN_ODD, ((),))
        self.assert_error(NoClub, {}, hall.add, (0, 1))
        self.assert_hall(hall, 3, EVEN_ODD, ((),))


class StepsTest(HallCase):
    def test_steps_by_each_rule(self):
        for rule, clubs in STEPS.items():
            hall = Townhall(8, rule)
            for many, club in enumerate(clubs):
                self.assert_hall(hall, 8, rule, clubs[:many])
                self.assertIsNone(self.answer(hall.add, club))
            for many in range(len(clubs), 0, -1):
                self.assert_hall(hall, 8, rule, clubs[:many])
                self.assertIsNone(hall.undo())
            self.assert_hall(hall, 8, rule, ())
            self.assert_error(NoStep, {}, hall.undo)
            self.assert_hall(hall, 8, rule, ())

    def test_errors_between_steps(self):
        hall = Townhall(3, EVEN_ODD)
        self.assert_error(NoStep, {}, hall.undo)
        self.assertIsNone(hall.add((1, 2)))
        self.assert_error(NoClub, {}, hall.add, (1, 2))
        self.assert_error(BadClub, {}, hall.add, (2, 3))
        self.assertIsNone(hall.add((0, 1)))
        self.assert_error(NoClub, {}, hall.add, ())
        self.assert_hall(hall, 3, EVEN_ODD, ((1, 2), (0, 1)))
        self.assertIsNone(hall.undo())
        self.assert_error(BadClub, {}, hall.add, [0, 2])
        self.assert_hall(hall, 3, EVEN_ODD, ((1, 2),))
        self.assertIsNone(hall.add((0, 2)))
        self.assertIsNone(hall.add((0, 1)))
        self.assert_hall(hall, 3, EVEN_ODD, ((1, 2), (0, 2), (0, 1)))
        self.assert_same((hall.may(), hall.room()), ((), 0))
        for _ in range(3):
            self.assertIsNone(hall.undo())
        self.assert_error(NoStep, {}, hall.undo)
        self.assert_error(NoClub, {}, hall.add, (0,))
        self.assertIsNone(hall.add(()))
        self.assert_hall(hall, 3, EVEN_ODD, ((),))

    def test_the_last_one_is_the_one_added_last(self):
        hall = self.hall_with(4, ODD_EVEN, ((3,), (0,), (2,)))
        hall.undo()
        self.assert_hall(hall, 4, ODD_EVEN, ((3,), (0,)))
        hall.undo()
        self.assert_hall(hall, 4, ODD_EVEN, ((3,),))

    def test_a_club_taken_back_can_be_added_anew(self):
        hall = self.hall_with(2, ODD_ODD, ((1,),))
        self.assert_error(NoClub, {}, hall.add, (0,))
        hall.undo()
        self.assertIsNone(hall.add((0,)))
        self.assert_hall(hall, 2, ODD_ODD, ((0,),))
        hall.undo()
        self.assertIsNone(hall.add((1,)))
        self.assert_hall(hall, 2, ODD_ODD, ((1,),))

    def test_room_is_left_in_a_full_town(self):
        hall = self.hall_with(3, ODD_EVEN, ((0, 1, 2),))
        self.assert_same((hall.may(), hall.room()), ((), 2))

    def test_what_was_returned_stays_as_it_is(self):
        hall = self.hall_with(4, ODD_EVEN, ((1,),))
        town, added, may = hall.town, hall.added, hall.may()
        hall.add((0,))
        hall.undo()
        hall.undo()
        self.assert_same((town, added, may), ((4, ((1,),)), ((1,),), ((0,), (0, 2, 3), (2,), (3,))))

    def test_all_ways_of_few_people(self):
        for people in (1, 2, 3, 4):
            for rule in WORD_PAIRS:
                self.check_all_ways(Townhall(people, rule), people, rule, ())

    def check_all_ways(self, hall, people, rule, added):
        """Add each club and take it back, from here and from wherever that leads."""
        self.assert_hall(hall, people, rule, added)
        able = told_may(people, added, rule)
        for club in all_clubs(people):
            if club in able:
                self.assertIsNone(hall.add(club))
                self.check_all_ways(hall, people, rule, added + (club,))
                self.assertIsNone(hall.undo())
            else:
                self.assert_error(NoClub, {}, hall.add, club)
        self.assert_same((hall.town, hall.added), ((people, tuple(sorted(added))), added))


if __name__ == "__main__":
    unittest.main()
