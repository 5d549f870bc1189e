"""What the tests share: values of every kind, all small towns, and checked calls."""

import unittest
from itertools import combinations

# None of these is a town, a rule or a club of a town, however many people it has.
STRANGE_VALUES = (
    0, 1, -1, 8, 10 ** 30, "", "even", "odd", "people", True, False, None,
    [], {}, [0], [()], {0: 1}, {"even": "odd"}, (None,), (True,), ("0",), ([],), ({},), ((),), (((),),),
    ("even",), ("odd", None), (None, "even"), ("even", "none"), ("Even", "odd"), ("even", "odd", "even"),
    ["even", "odd"], ["odd", "even"], "evenodd", {"even": 0, "odd": 1}, (("even", "odd"),), ("even", ["odd"]),
    (0, 0), (1, 0), (0, 2, 1), (-1,), (8,), (0, 8), (0, True), (False, 1), (0, "1"), (0, None), ((0,), (1,)),
    [2, ()], [2, []], (2, (), ()), ((), 2), {2: ()}, "2 ", ([2, ()],), {"people": 2, "clubs": ()},
    (2, None), (2, [(0,)]), (2, {(0,): (1,)}), (2, ([0],)), (2, (0,)), (0, ()), (9, ()), ("2", ()), (True, ()),
)

WORD_PAIRS = (("even", "even"), ("even", "odd"), ("odd", "even"), ("odd", "odd"))


def all_clubs(people):
    """All clubs of so many people, ascending."""
    return sorted(club for size in range(people + 1) for club in combinations(range(people), size))


def small_towns(most_people=3, most_clubs=8):
    """All towns of few people with few clubs."""
    for people in range(1, most_people + 1):
        clubs = all_clubs(people)
        for many in range(min(most_clubs, len(clubs)) + 1):
            for chosen in combinations(clubs, many):
                yield people, chosen


class ProgramCase(unittest.TestCase):
    """Calls that also see to it that the arguments stay as they are."""

    def answer(self, function, *arguments):
        told = repr(arguments)
        value = function(*arguments)
        self.assertEqual(repr(arguments), told)
        return value

    def assert_same(self, value, expected):
        """Alike in kind as well: 1 is not True, and () is not []."""
        self.assertEqual(repr(value), repr(expected))

    def assert_error(self, error, fields, function, *arguments):
        told = repr(arguments)
        with self.assertRaises(error, msg=told) as caught:
            function(*arguments)
        self.assertIs(type(caught.exception), error, told)
        for name, worth in fields.items():
            self.assertEqual(getattr(caught.exception, name), worth, told)
        self.assertEqual(repr(arguments), told)
