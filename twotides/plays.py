"""Plays: fillings that are led, tick by tick."""

from twotides.basics import is_between
from twotides.errors import NoNumber
from twotides.fillings import behind, check_filling, check_opening, streams


class Play:
    """A filling of a web that is led; its ticks can be taken back."""

    def __init__(self, web, filling):
        check_filling(web, filling)
        self._web = web
        # The fillings and the sums begin ahead of all ticks, so they are one longer than the openings.
        self._fillings = [filling]
        self._sums = [0]
        self._openings = []

    def tick(self, opening):
        """Does a tick and returns the flows."""
        check_opening(self._web, opening)
        ran = streams(self._web, self._fillings[-1], opening)
        self._fillings.append(behind(self._web, self._fillings[-1], ran))
        self._sums.append(self._sums[-1] + sum([abs(many) for many in ran]))
        self._openings.append(opening)
        return ran

    def now(self):
        """The filling now."""
        return self._fillings[-1]

    def log(self):
        """The list of the openings of all ticks that were not taken back."""
        return list(self._openings)

    def ran(self):
        """How many measures ran in the ticks that were not taken back."""
        return self._sums[-1]

    def back(self, many):
        """Takes back the last ticks, so many of them."""
        if not is_between(1, len(self._openings), many):
            raise NoNumber()
        del self._fillings[-many:]
        del self._sums[-many:]
        del self._openings[-many:]

    def copy(self):
        """A play that goes on apart."""
        play = Play(self._web, self._fillings[0])
        play._fillings = list(self._fillings)
        play._sums = list(self._sums)
        play._openings = list(self._openings)
        return play

    def trying(self, action):
        """What the action returns when it is called with this play; all that it did is put back."""
        fillings, sums, openings = list(self._fillings), list(self._sums), list(self._openings)
        try:
            return action(self)
        finally:
            self._fillings = fillings
            self._sums = sums
            self._openings = openings
