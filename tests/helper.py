"""What the tests share: the interface, values of every kind, all small towns, and checked calls."""

import unittest
from itertools import combinations

# The names of the interface by their modules, and the arguments of all but the errors.
INTERFACE = {
    "errors": (
        "TownError", "BadTown", "BadRule", "BadClub", "BadNumber", "BreaksRule", "NoClub", "NoStep", "BadText",
        "BadLine",
    ),
    "towns": ("is_town", "members", "shared"),
    "rules": ("all_rules", "keeps", "rules_kept", "breaking"),
    "growths": ("more_clubs", "is_full", "filled", "shows_filled"),
    "greatest": ("most_clubs", "great_town", "shows_great_town"),
    "lists": ("great_towns",),
    "counts": ("count_great",),
    "sums": ("summed", "total", "sums", "dimension", "is_sum", "beside"),
    "halls": ("Townhall",),
    "towntexts": ("write_town", "read_town"),
}

ARGUMENTS = {
    "is_town": ["value"], "members": ["town"], "shared": ["town", "one", "other"],
    "all_rules": [], "keeps": ["town", "rule"], "rules_kept": ["town"], "breaking": ["town", "rule"],
    "more_clubs": ["town", "rule"], "is_full": ["town", "rule"], "filled": ["town", "rule"],
    "shows_filled": ["town", "rule", "value"],
    "most_clubs": ["people", "rule"], "great_town": ["people", "rule"], "shows_great_town": ["people", "rule", "value"],
    "great_towns": ["people", "rule"], "count_great": ["people", "rule"],
    "summed": ["town", "one", "other"], "total": ["town"], "sums": ["town"], "dimension": ["town"],
    "is_sum": ["town", "club"], "beside": ["town"],
    "Townhall": ["people", "rule"], "write_town": ["town"], "read_town": ["text"],
}

# None of these is a town, a rule or a club of a town, however many people it has.
STRANGE_VALUES = (
    0, 1, -1, 8, 10 ** 30, "", "even", "odd", "people", True, False, None,
    [], {}, [0], [()], {0: 1}, {"even": "odd"}, (None,), (True,), ("0",), ([],), ({},), ((),), (((),),),
    ("even",), ("odd", None), (None, "even"), ("even", "none"), ("Even", "odd"), ("even", "odd", "even"),
    ["even", "odd"], ["odd", "even"], "evenodd", {"even": 0, "odd": 1}, (("even", "odd"),), ("even", ["odd"]),
    (0, 0), (1, 0), (0, 2, 1), (-1,), (8,), (0, 8), (0, True), (False, 1), (0, "1"), (0, None), ((0,), (1,)),
    [2, ()], [2, []], (2, (), ()), ((), 2), {2: ()}, "2 ", ([2, ()],), {"people": 2, "clubs": ()},
    (2, None), (2, [(0,)]), (2, {(0,): (1,)}), (2, ([0],)), (2, (0,)), (0, ()), (9, ()), ("2", ()), (True, ()),
)

# Each value with the first word that names what is wrong.
NO_TOWNS = (
    (0, "whole"), (2, "whole"), ("ab", "whole"), ("", "whole"), (True, "whole"), (False, "whole"), (None, "whole"),
    ((), "whole"), ((2,), "whole"), ((2, (), ()), "whole"), ([], "whole"), ([2, ()], "whole"), ({}, "whole"),
    ({2: ()}, "whole"), ({2: (), 3: ()}, "whole"), (((2, ()),), "whole"), (([2, ()],), "whole"),
    ([0, None], "whole"), ([True, [[1, 0]]], "whole"), ((0, [], None), "whole"),
    ((0, ()), "people"), ((9, ()), "people"), ((-1, ()), "people"), ((10 ** 30, ()), "people"),
    ((True, ()), "people"), ((False, ()), "people"), (("2", ()), "people"), ((None, ()), "people"),
    (((), 2), "people"), (([2], ()), "people"), (({2: 2}, ()), "people"), (((2,), ()), "people"),
    ((0, None), "people"), ((9, [(1, 0)]), "people"), ((True, ((0,), (0,))), "people"), (("ab", "cd"), "people"),
    ((None, None), "people"), ((((2, ()), 0)), "people"),
    ((2, 0), "clubs"), ((2, None), "clubs"), ((2, True), "clubs"), ((2, "01"), "clubs"), ((2, ""), "clubs"),
    ((2, []), "clubs"), ((2, {}), "clubs"), ((2, [(0,)]), "clubs"), ((2, {(0,): (1,)}), "clubs"),
    ((2, (0,)), "clubs"), ((2, (0, 1)), "clubs"), ((2, (None,)), "clubs"), ((2, ("",)), "clubs"),
    ((2, ("0",)), "clubs"), ((2, (True,)), "clubs"), ((2, ([],)), "clubs"), ((2, ([0],)), "clubs"),
    ((2, ({},)), "clubs"), ((2, ({0: 1},)), "clubs"), ((2, ((), [0])), "clubs"), ((2, ((0,), None)), "clubs"),
    ((2, ((1,), (0,))), "clubs"), ((2, ((0,), ())), "clubs"), ((2, ((0, 1), (0,))), "clubs"),
    ((3, ((0,), (2,), (1,))), "clubs"), ((3, ((), (1,), (0, 2))), "clubs"),
    ((2, ((0,), (0,))), "clubs"), ((2, ((), ())), "clubs"), ((3, ((0,), (1, 2), (1, 2))), "clubs"),
    ((2, ((1, 0),)), "clubs"), ((4, ((0, 2, 1),)), "clubs"), ((4, ((0,), (3, 1))), "clubs"),
    ((2, ((0, 0),)), "clubs"), ((3, ((0, 1, 1),)), "clubs"),
    ((2, ((-1,),)), "clubs"), ((2, ((-1, 0),)), "clubs"), ((2, ((2,),)), "clubs"), ((2, ((0, 2),)), "clubs"),
    ((8, ((8,),)), "clubs"), ((1, ((1,),)), "clubs"), ((2, ((10 ** 30,),)), "clubs"),
    ((2, ((True,),)), "clubs"), ((2, ((False,),)), "clubs"), ((2, ((0, True),)), "clubs"),
    ((2, ((False, 1),)), "clubs"), ((3, ((0,), (False, 2))), "clubs"),
    ((2, (("0",),)), "clubs"), ((2, ((None,),)), "clubs"), ((2, (((),),)), "clubs"), ((2, (((0,),),)), "clubs"),
    ((2, (([0],),)), "clubs"), ((2, ((0, "1"),)), "clubs"), ((2, ((0,), ("1",))), "clubs"),
    ((2, ((0,), (None,))), "clubs"),
)

WORD_PAIRS = (("even", "even"), ("even", "odd"), ("odd", "even"), ("odd", "odd"))

NO_RULES = STRANGE_VALUES + (
    2, "even odd", ["even", "even"], ["odd", "odd"], ("even", "odd", "odd"), ("odd",), ("even", "uneven"),
    ("odd", "none"), ("none", "odd"), ("ODD", "even"), ("even", ""), ("even ", "odd"), (0, 1), (True, False),
    (None, None), ("odd", None), (["odd"], "even"), (("odd", "even"), "odd"), {"odd": "even", "even": "odd"},
)

# None of these is a club of a town of four people; some are clubs of greater towns.
NO_CLUBS_OF_FOUR = (
    0, 3, -1, True, False, None, "", "0", "01", [], [0], [0, 1], {}, {0: 1}, (4,), (0, 4), (-1,), (-1, 0), (9,),
    (1, 0), (0, 2, 1), (0, 0), (1, 2, 2), (True,), (False,), (0, True), (False, 1), ("0",), (0, "1"), (None,),
    ((),), ((0,),), ([0],), ({},), (0, None), (10 ** 30,),
)

# None of these is an integer, and so no number of people.
NO_INTEGERS = (
    True, False, None, "", "1", "3", " 4", "odd", (), (3,), (3, ()), ("3",), (True,), [], [3], [3, 4], {}, {3: 3},
    {"people": 3}, ((3,),), ([3],), (None,), ({3: 4},),
)


def all_clubs(people):
    """All clubs of so many people, ascending."""
    return sorted(club for size in range(people + 1) for club in combinations(range(people), size))


def small_towns(most_people=3, most_clubs=8):
    """All towns of few people with few clubs."""
    for people in range(1, most_people + 1):
        clubs = all_clubs(people)
        for many in range(min(most_clubs, len(clubs)) + 1):
            for chosen in combinations(clubs, many):
                yield people, chosen


def told_breach(town, rule):
    """What breaking has to return, by the words of the document."""
    _, clubs = town
    wants_odd = [word == "odd" for word in rule]
    wrong = [club for club in clubs if (len(club) % 2 == 1) != wants_odd[0]]
    if wrong:
        return (wrong[0],)
    pairs = [(clubs[i], clubs[k]) for i in range(len(clubs)) for k in range(i + 1, len(clubs))]
    wrong = [pair for pair in pairs if (len(set(pair[0]) & set(pair[1])) % 2 == 1) != wants_odd[1]]
    return wrong[0] if wrong else None


def told_kept(people, clubs, rule):
    """Whether clubs, in any order, keep a rule, by the words of the document."""
    return told_breach((people, tuple(sorted(clubs))), rule) is None


def small_kept_towns(most_people=3, most_clubs=8):
    """All towns of few people with few clubs, each with each of the rules that it keeps."""
    for town in small_towns(most_people, most_clubs):
        for rule in WORD_PAIRS:
            if told_breach(town, rule) is None:
                yield town, rule


class ProgramCase(unittest.TestCase):
    """Calls that also see to it that the arguments stay as they are."""

    def answer(self, function, *arguments):
        told = repr(arguments)
        value = function(*arguments)
        self.assertEqual(repr(arguments), told)
        return value

    def assert_same(self, value, expected):
        """Alike in kind as well: 1 is not True, and () is not []."""
        self.assertEqual(repr(value), repr(expected))

    def assert_error(self, error, fields, function, *arguments):
        told = repr(arguments)
        with self.assertRaises(error, msg=told) as caught:
            function(*arguments)
        self.assertIs(type(caught.exception), error, told)
        for name, worth in fields.items():
            self.assertEqual(getattr(caught.exception, name), worth, told)
        self.assertEqual(repr(arguments), told)
