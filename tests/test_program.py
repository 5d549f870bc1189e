"""Point 1 over the whole program: which error of several is raised, and any value for any argument."""

import unittest
from importlib import import_module
from itertools import product

from fourtowns.errors import BadClub, BadNumber, BadRule, BadText, BadTown, TownError
from helper import ARGUMENTS, INTERFACE, NO_CLUBS_OF_FOUR, NO_RULES, STRANGE_VALUES, ProgramCase

ERRORS = {
    "town": BadTown, "rule": BadRule, "people": BadNumber, "club": BadClub, "one": BadClub, "other": BadClub,
    "text": BadText,
}

# A good value for each argument; the town keeps the rule, but not all rules.
GOOD = {
    "town": (4, ((0,), (1, 2, 3))), "rule": ("odd", "even"), "people": 4, "club": (0, 3), "one": (), "other": (1,),
    "text": "people 4", "value": None,
}

# None of these is a good value for any argument but the text and what is shown.
BAD = (
    None, True, False, 0, -1, 9999, "", "odd even", "people 2", [], [1], [4, ()], ["odd", "even"], {}, {0: 1},
    (None,), (True,), ([0],), (0, 0), (4, [(0,)]), ("odd", None), (True, ()),
)


def functions():
    """All functions and classes of the interface that take arguments, but the errors."""
    for module, names in INTERFACE.items():
        for name in names:
            if module != "errors" and ARGUMENTS[name]:
                yield getattr(import_module(f"fourtowns.{module}"), name), ARGUMENTS[name]


def is_bad(argument, value):
    if argument == "value":
        return False
    # By kind, too: (True,) equals (1,) and is no club.
    return not isinstance(value, str) if argument == "text" else repr(value) != repr(GOOD[argument])


class ArgumentsTest(ProgramCase):
    def test_the_error_of_the_leftmost_bad_argument(self):
        for function, arguments in functions():
            for values in product(*[[GOOD[argument], *BAD] for argument in arguments]):
                wrong = [argument for argument, value in zip(arguments, values) if is_bad(argument, value)]
                if wrong:
                    self.assert_error(ERRORS[wrong[0]], {}, function, *values)

    def test_any_value_for_any_argument(self):
        for function, arguments in functions():
            for place, _ in enumerate(arguments):
                for value in STRANGE_VALUES + NO_RULES + NO_CLUBS_OF_FOUR:
                    values = [GOOD[argument] for argument in arguments]
                    values[place] = value
                    self.check_ends_well(function, values)

    def check_ends_well(self, function, values):
        told = repr(values)
        try:
            function(*values)
        except TownError:
            pass
        self.assertEqual(repr(values), told)

    def test_good_values(self):
        for function, arguments in functions():
            values = [GOOD[argument] for argument in arguments]
            if function.__name__ == "Townhall":
                self.assertEqual(self.answer(function, *values).town, (4, ()))
            else:
                self.assert_same(self.answer(function, *values), function(*values))


if __name__ == "__main__":
    unittest.main()
