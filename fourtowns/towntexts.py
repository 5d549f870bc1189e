"""Towns written as texts, and read from them."""

from fourtowns.errors import BadLine, BadText
from fourtowns.towns import check_town

FIGURES = ("0", "1", "2", "3", "4", "5", "6", "7", "8")


def club_line(club):
    """The line of a club."""
    return " ".join(["club"] + [str(person) for person in club])


def write_town(town):
    """The text of a town."""
    check_town(town)
    people, clubs = town
    return "\n".join([f"people {people}"] + [club_line(club) for club in clubs])


def told_lines(text):
    """The lines with words, each as a pair of its number and its words."""
    found = []
    for number, line in enumerate(text.split("\n"), start=1):
        # Nothing but a space parts words, so a tab belongs to one.
        words = [word for word in line.split(" ") if word != ""]
        if words != []:
            found.append((number, words))
    return found


def told_people(number, words):
    """The number of people that the words of the line of a number tell."""
    if words[0] != "people":
        raise BadLine(number, 1)
    if len(words) < 2 or words[1] not in FIGURES[1:]:
        raise BadLine(number, 2)
    if len(words) > 2:
        raise BadLine(number, 3)
    return FIGURES.index(words[1])


def told_club(number, words, people):
    """The club of so many people that the words of the line of a number tell."""
    if words[0] != "club":
        raise BadLine(number, 1)
    club = ()
    lowest = 0
    for place, word in enumerate(words[1:], start=2):
        if word not in FIGURES[lowest:people]:
            raise BadLine(number, place)
        person = FIGURES.index(word)
        club = club + (person,)
        lowest = person + 1
    return club


def read_town(text):
    """The town that a text tells."""
    if not isinstance(text, str):
        raise BadText("a text is a string")
    lines = told_lines(text)
    if lines == []:
        raise BadLine(len(text.split("\n")) + 1, 1)
    first, first_words = lines[0]
    people = told_people(first, first_words)
    clubs = ()
    for number, words in lines[1:]:
        club = told_club(number, words, people)
        # Slices are compared, since there is no club ahead of the first one.
        if clubs[-1:] >= (club,):
            raise BadLine(number, 1)
        clubs = clubs + (club,)
    return (people, clubs)
