"""A town that keeps a rule while clubs are added and taken back."""

from fourtowns.errors import NoClub, NoStep
from fourtowns.greatest import most_clubs
from fourtowns.growths import fits, more_clubs
from fourtowns.rules import check_rule
from fourtowns.towns import MOST_PEOPLE, check_club, check_number


class Townhall:
    """A town, without clubs at first, that keeps a rule."""

    def __init__(self, people, rule):
        check_number(people, MOST_PEOPLE)
        check_rule(rule)
        self._people = people
        self._rule = rule
        self._added = ()

    @property
    def town(self):
        """The town as it is now."""
        return (self._people, tuple(sorted(self._added)))

    @property
    def added(self):
        """The clubs added and not taken back, in that order."""
        return self._added

    def add(self, club):
        """Add a club with which the town still keeps the rule."""
        check_club(club, self._people)
        if not fits(club, self._added, self._rule):
            raise NoClub("the club is there, or the rule is not kept with it")
        self._added = self._added + (club,)

    def undo(self):
        """Take the club back that was added last."""
        if self._added == ():
            raise NoStep("there is no club to take back")
        self._added = self._added[:-1]

    def may(self):
        """The clubs that can be added, ascending."""
        return more_clubs(self.town, self._rule)

    def room(self):
        """How many clubs there are fewer than the most."""
        return most_clubs(self._people, self._rule) - len(self._added)
