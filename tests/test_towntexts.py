"""Point 9: write_town and read_town, with BadTown, BadText and BadLine."""

import unittest

from fourtowns.errors import BadLine, BadText, BadTown
from fourtowns.greatest import great_town
from fourtowns.towntexts import read_town, write_town
from helper import NO_TOWNS, STRANGE_VALUES, WORD_PAIRS, ProgramCase, all_clubs, small_towns

NO_TEXTS = tuple(value for value in STRANGE_VALUES if not isinstance(value, str)) + (
    ["people 2"], ("people 2",), ["people", "2"], ("people", 2), {"people": 2}, [""], ("",), (2, ((0,),)), [2, []],
)

# Words that no town's text has, whatever stands ahead.
STRANGE_WORDS = (
    "-", "-1", "+1", "01", "00", "1.", "1,", "1.0", "9", "10", "11", "1_0", "0x1", "one", "x", ",", "#", "\t", "1\t",
    "\t1", "1\r", "\r", "\x0b", "\x0c", "1\x0c", "\x1c", "\x85", "\xa0", "1\xa0", "\u2028", "\u3000", "\x00", "\ufeff",
    "\u0661", "\xb9", "\uff11", "\u2460", "People", "PEOPLE", "Club", "CLUB", "clubs", "peopl", "people1", "club0",
    "people,", "club:", "None", "True", "()", "(0,)", "\"", "'",
)


def told_reading(text):
    """The town, or the line and word of the error: a word can stand if some right line begins so."""
    lines = [(number, [word for word in line.split(" ") if word]) for number, line in enumerate(text.split("\n"), 1)]
    first, *others = [(number, words) for number, words in lines if words]
    rights = [["people", str(people)] for people in range(1, 9)]
    wrong = told_wrong_word(first[1], rights)
    if wrong:
        return (first[0], wrong)
    people = int(first[1][1])
    rights = [["club", *map(str, club)] for club in all_clubs(people)]
    clubs = []
    for number, words in others:
        wrong = told_wrong_word(words, rights)
        if wrong:
            return (number, wrong)
        club = tuple(map(int, words[1:]))
        if clubs and club <= clubs[-1]:
            return (number, 1)
        clubs.append(club)
    return (people, tuple(clubs))


def told_wrong_word(words, rights):
    for many in range(1, len(words) + 1):
        if not any(right[:many] == words[:many] for right in rights):
            return many
    return None if words in rights else len(words) + 1


def lines_of(words, most):
    """All lines of up to so many of the words, with one at least."""
    lines = longer = [word for word in words]
    for _ in range(most - 1):
        longer = [f"{line} {word}" for line in longer for word in words]
        lines = lines + longer
    return lines


class TextCase(ProgramCase):
    def assert_read(self, text, town):
        self.assert_same(self.answer(read_town, text), town)

    def assert_wrong(self, text, line, word):
        self.assert_error(BadLine, {"line": line, "word": word}, read_town, text)


class ExamplesTest(TextCase):
    def test_values(self):
        found = [write_town((3, ((), (0, 2)))), read_town("people 2\nclub 0\nclub 0 1")]
        self.assert_same(found, ["people 3\nclub\nclub 0 2", (2, ((0,), (0, 1)))])

    def test_error(self):
        self.assert_wrong("people 2\nclub 1 0", 2, 3)


class WriteTest(TextCase):
    def test_values(self):
        self.assert_same(self.answer(write_town, (1, ())), "people 1")
        self.assert_same(self.answer(write_town, (8, ())), "people 8")
        self.assert_same(self.answer(write_town, (1, ((),))), "people 1\nclub")
        self.assert_same(self.answer(write_town, (1, ((), (0,)))), "people 1\nclub\nclub 0")
        self.assert_same(self.answer(write_town, (8, ((7,),))), "people 8\nclub 7")
        self.assert_same(self.answer(write_town, (8, (tuple(range(8)),))), "people 8\nclub 0 1 2 3 4 5 6 7")
        town = (4, ((0, 1), (0, 1, 2), (0, 2), (1,)))
        self.assert_same(self.answer(write_town, town), "people 4\nclub 0 1\nclub 0 1 2\nclub 0 2\nclub 1")

    def test_no_space_or_newline_too_many(self):
        for town in small_towns():
            text = self.answer(write_town, town)
            self.assertEqual(text, "\n".join(" ".join(line.split()) for line in text.split("\n")))
            self.assertEqual(len(text.split("\n")), 1 + len(town[1]))

    def test_bad_town(self):
        for value, part in NO_TOWNS:
            self.assert_error(BadTown, {"part": part}, write_town, value)

    def test_strange_values(self):
        for value in STRANGE_VALUES:
            self.assert_error(BadTown, {}, write_town, value)

    def test_a_text_is_no_town(self):
        self.assert_error(BadTown, {"part": "whole"}, write_town, "people 1")


class ReadWrittenTest(TextCase):
    def test_all_small_towns(self):
        for town in small_towns():
            self.assert_read(write_town(town), town)

    def test_towns_by_each_rule(self):
        for people in range(1, 9):
            for rule in WORD_PAIRS:
                town = great_town(people, rule)
                self.assert_read(self.answer(write_town, town), town)

    def test_towns_without_clubs_with_a_club_of_none_and_with_all(self):
        for people in range(1, 9):
            for clubs in ((), ((),), tuple(all_clubs(people))):
                self.assert_read(write_town((people, clubs)), (people, clubs))


class SpacesTest(TextCase):
    def test_more_spaces(self):
        self.assert_read(" people 2", (2, ()))
        self.assert_read("people    2", (2, ()))
        self.assert_read("people 2    ", (2, ()))
        self.assert_read("   people  3 \n  club   0    2  ", (3, ((0, 2),)))
        self.assert_read("people 2\nclub   ", (2, ((),)))
        self.assert_read("people 2\n   club\n club  1", (2, ((), (1,))))

    def test_void_lines(self):
        self.assert_read("\npeople 2", (2, ()))
        self.assert_read("people 2\n", (2, ()))
        self.assert_read("\n\n  \npeople 2\n\n   \nclub 0\n \nclub 1\n\n", (2, ((0,), (1,))))

    def test_words_are_parted_by_spaces_alone(self):
        self.assert_wrong("people\t2", 1, 1)
        self.assert_wrong("people 2\t", 1, 2)
        self.assert_wrong("people 2\nclub\t0", 2, 1)
        self.assert_wrong("people 2\nclub 0\t1", 2, 2)
        self.assert_wrong("people 2\xa0", 1, 2)

    def test_lines_are_parted_by_newlines_alone(self):
        self.assert_wrong("people 2\r\nclub 0", 1, 2)
        self.assert_wrong("people 2 \r\nclub 0", 1, 3)
        self.assert_wrong("people 2\rclub 0", 1, 2)
        self.assert_wrong("people 2\n\r\nclub 0", 2, 1)
        for sign in "\x0b\x0c\x1c\x1d\x1e\x85\u2028\u2029":
            self.assert_wrong(f"people 2{sign}club 0", 1, 2)
            self.assert_wrong(f"people 2 {sign} club 0", 1, 3)


class BadTextTest(TextCase):
    def test_no_strings(self):
        for value in NO_TEXTS:
            self.assert_error(BadText, {}, read_town, value)

    def test_texts_without_words(self):
        self.assert_wrong("", 2, 1)
        self.assert_wrong(" ", 2, 1)
        self.assert_wrong("\n", 3, 1)
        self.assert_wrong("  \n \n    ", 4, 1)
        self.assert_wrong("\n" * 9, 11, 1)


class BadFirstLineTest(TextCase):
    def test_another_first_word(self):
        for text in ("club", "club 0", "2", "peoples 2", "x people 2", "0", "club people 2"):
            self.assert_wrong(text, 1, 1)
        self.assert_wrong("\n \nclub 0\npeople 2", 3, 1)
        for word in STRANGE_WORDS:
            self.assert_wrong(word, 1, 1)
            self.assert_wrong(f"{word} 2\nclub 9", 1, 1)

    def test_another_number(self):
        for word in STRANGE_WORDS + ("0", "people", "club", "22"):
            self.assert_wrong(f"people {word}", 1, 2)
            self.assert_wrong(f"\n  people   {word} 3\nclubs", 2, 2)
        for word in "12345678":
            self.assert_read(f"people {word}", (int(word), ()))

    def test_no_number(self):
        self.assert_wrong("people", 1, 2)
        self.assert_wrong("people   ", 1, 2)
        self.assert_wrong("\n\n people\nclub 0", 3, 2)
        self.assert_wrong("people\n2", 1, 2)

    def test_a_third_word(self):
        for word in STRANGE_WORDS + ("0", "1", "2", "people", "club"):
            self.assert_wrong(f"people 2 {word}", 1, 3)
            self.assert_wrong(f" \npeople 2 {word} {word}\nclub x", 2, 3)


class BadClubLineTest(TextCase):
    def test_another_first_word(self):
        for word in STRANGE_WORDS + ("people", "0", "1"):
            self.assert_wrong(f"people 2\n{word}", 2, 1)
            self.assert_wrong(f"people 2\nclub\n\n {word} 9", 4, 1)
        self.assert_wrong("people 2\npeople 2", 2, 1)
        self.assert_wrong("people 2\nclub 0\n1", 3, 1)

    def test_a_word_that_is_no_person(self):
        for word in STRANGE_WORDS + ("2", "3", "8", "people", "club"):
            self.assert_wrong(f"people 2\nclub {word}", 2, 2)
            self.assert_wrong(f"people 2\nclub 0 {word}", 2, 3)
            self.assert_wrong(f"people 2\n\nclub\nclub 0 1 {word} 0", 4, 4)

    def test_persons_below_the_number_of_people(self):
        for people in range(1, 9):
            for person in range(10):
                text = f"people {people}\nclub {person}"
                if person < people:
                    self.assert_read(text, (people, ((person,),)))
                else:
                    self.assert_wrong(text, 2, 2)

    def test_a_person_that_is_not_above_the_one_ahead(self):
        for ahead in range(8):
            for person in range(8):
                text = f"people 8\nclub {ahead} {person}"
                if ahead < person:
                    self.assert_read(text, (8, ((ahead, person),)))
                else:
                    self.assert_wrong(text, 2, 3)
        self.assert_wrong("people 4\nclub 0 2 1 3", 2, 4)
        self.assert_wrong("people 4\nclub 1 1", 2, 3)
        self.assert_wrong("people 4\nclub 0 1 2 3 3", 2, 6)

    def test_a_club_that_does_not_come_behind_the_one_ahead(self):
        self.assert_wrong("people 2\nclub 1\nclub 0", 3, 1)
        self.assert_wrong("people 2\nclub 0\nclub 0", 3, 1)
        self.assert_wrong("people 2\nclub\nclub", 3, 1)
        self.assert_wrong("people 2\nclub 0\nclub", 3, 1)
        self.assert_wrong("people 3\nclub 0 2\nclub 0 1", 3, 1)
        self.assert_wrong("people 3\nclub 0 1\nclub 0", 3, 1)
        self.assert_wrong("people 3\n\nclub 0\n\nclub 2\n  club   1", 6, 1)
        self.assert_wrong("people 3\nclub 1\nclub 2\nclub 1\nclub 0", 4, 1)

    def test_its_words_are_told_ahead_of_its_place(self):
        self.assert_wrong("people 2\nclub 1\nclub 0 0", 3, 3)
        self.assert_wrong("people 2\nclub 1\nclub 2", 3, 2)
        self.assert_wrong("people 2\nclub 1\nclub 0 x", 3, 3)

    def test_the_first_wrong_line_is_told(self):
        self.assert_wrong("people 2\nclub 1\nclub 0\nclub 9", 3, 1)
        self.assert_wrong("people 2\nclub 9\nclub 1\nclub 0", 2, 2)
        self.assert_wrong("people 9\nclub 9", 1, 2)
        self.assert_wrong("people 3 4\nx", 1, 3)

    def test_the_first_wrong_word_is_told(self):
        self.assert_wrong("x 9 9", 1, 1)
        self.assert_wrong("people 9 9", 1, 2)
        self.assert_wrong("people 2\nx 9", 2, 1)
        self.assert_wrong("people 4\nclub 3 2 9", 2, 3)
        self.assert_wrong("people 4\nclub 9 0 0", 2, 2)


class AllShortTextsTest(TextCase):
    def check(self, text):
        expected = told_reading(text)
        if isinstance(expected[1], tuple):
            self.assert_read(text, expected)
            self.assert_read("\n" + text.replace(" ", "   ").replace("\n", " \n\n ") + "\n", expected)
        else:
            self.assert_wrong(text, *expected)

    def test_first_lines(self):
        for line in lines_of(("people", "club", "0", "1", "8", "9", "01", "x"), 3):
            self.check(line)

    def test_lines_of_clubs(self):
        words = ("club", "people", "0", "1", "2", "3", "01")
        for people in (1, 2, 3):
            for line in lines_of(words, 3):
                self.check(f"people {people}\n{line}")
        for line in lines_of(("0", "1", "2"), 4):
            self.check(f"people 3\nclub {line}")

    def test_two_clubs(self):
        clubs = [" ".join(["club", *map(str, club)]) for club in all_clubs(3)]
        for one in clubs:
            for other in clubs + lines_of(("club", "0", "1", "2", "3"), 3):
                self.check(f"people 3\n{one}\n{other}")
                self.check(f" people 3\n\n{one}\n  \n{other}\n")

    def test_three_clubs(self):
        clubs = [" ".join(["club", *map(str, club)]) for club in all_clubs(2)] + ["club 1 0"]
        for one in clubs:
            for other in clubs:
                for third in clubs:
                    self.check(f"people 2\n{one}\n{other}\n{third}")


if __name__ == "__main__":
    unittest.main()
