"""A yard: a frame, a stand, prices and a goal, with edits that can be taken back."""

from evenlifts.asked import need_answer
from evenlifts.errors import NothingDone
from evenlifts.fewest import fewest_deeds
from evenlifts.goals import nearest_stand
from evenlifts.held import held_at_first, held_behind
from evenlifts.prices import cheapest
from evenlifts.shapes import plain


class Yard:
    """What a frame is played with: a line of EDITS, and what they come to."""

    def __init__(self, frame):
        self._first = plain(frame)
        self._line = []
        # What was held at first, and behind each EDIT of the line.
        self._rows = [held_at_first(self._first)]
        # What was undone, the last one last: pairs of an EDIT and of what was held behind it.
        self._undone = []

    def __eq__(self, other):
        """Whether other is a Yard of the same first FRAME with the same line."""
        return isinstance(other, Yard) and self._first == other._first and self._line == other._line

    def __len__(self):
        """How many EDITS the line has."""
        return len(self._line)

    def do(self, edit):
        """Do edit."""
        told = plain(edit)
        self._rows.append(held_behind(self._rows[-1], told))
        self._line.append(told)
        self._undone = []

    def undo(self):
        """Take back the last EDIT, and return it."""
        if not self._line:
            raise NothingDone()
        edit = self._line.pop()
        self._undone.append((edit, self._rows.pop()))
        return edit

    def redo(self):
        """Put back the EDIT that was undone last, and return it."""
        if not self._undone:
            raise NothingDone()
        edit, behind = self._undone.pop()
        self._rows.append(behind)
        self._line.append(edit)
        return edit

    def twin(self):
        """A Yard of its own with the same line, nothing undone."""
        found = Yard(self._first)
        for edit in self._line:
            found.do(edit)
        return found

    def edits(self):
        """The list of the EDITS of the line."""
        return list(self._line)

    def frame(self):
        """The FRAME."""
        return self._rows[-1][0]

    def stand(self):
        """The STAND."""
        return self._rows[-1][1]

    def prices(self):
        """The PRICES."""
        return self._rows[-1][2]

    def goal(self):
        """The goal: a number or None for each jack."""
        return self._rows[-1][3]

    def aim(self):
        """The nearest STAND that fits the goal."""
        told = [(jack, height) for jack, height in enumerate(self.goal()) if height is not None]
        return nearest_stand(self.frame(), self.stand(), told)

    def fewest(self):
        """The fewest DEEDS of a PLAN that leads to the nearest STAND that fits the goal."""
        near = self.aim()
        need_answer(self.frame(), self.stand(), near)
        return fewest_deeds(self.frame(), self.stand(), near)

    def cost(self):
        """The price of a cheapest PLAN that is let and leads there."""
        return cheapest(self.frame(), self.prices(), self.stand(), self.aim())
