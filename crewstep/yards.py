"""Sessions: named lines and rings of one roster, and the actions that made them."""

from crewstep.changes import changed, entry_of
from crewstep.edits import is_edit
from crewstep.errors import InvalidEdit, NothingToUndo
from crewstep.rosters import check_roster
from crewstep.shapes import form_by_shape, why_not_by_shape
from crewstep.texts import yard_text

MAX_EDITS = 50


class Yard:
    """A session. Its tables are never modified (crewstep/changes.py), so they are kept as they are."""

    def __init__(self, roster):
        check_roster(roster)
        self._roster = roster
        self._table = {}
        # The edits of each action: of those made with the table before them, of those undone with
        # the table after them. The last one stands at the end.
        self._made = []
        self._undone = []

    def apply(self, edit):
        """Apply one edit as one action."""
        self.together((edit,))

    def together(self, edits):
        """Apply all edits of a tuple as one action; if one raises an error, none has an effect."""
        if not isinstance(edits, tuple) or not 1 <= len(edits) <= MAX_EDITS:
            raise InvalidEdit(None)
        for index, edit in enumerate(edits):
            if not is_edit(edit):
                raise InvalidEdit(index)
        table = self._table
        for edit in edits:
            table = changed(self._roster, table, edit)
        self._made.append((edits, self._table))
        self._undone = []
        self._table = table

    def undo(self):
        """Restore the session as it was before the last action that is not undone."""
        if len(self._made) == 0:
            raise NothingToUndo("undo")
        edits, before = self._made.pop()
        self._undone.append((edits, self._table))
        self._table = before

    def redo(self):
        """Make the action that was undone last again."""
        if len(self._undone) == 0:
            raise NothingToUndo("redo")
        edits, after = self._undone.pop()
        self._made.append((edits, self._table))
        self._table = after

    def roster(self):
        """Return the roster."""
        return self._roster

    def names(self):
        """Return the names, ascending."""
        return tuple(sorted(self._table))

    def shape_of(self, name):
        """Return "line" or "ring"."""
        shape, _ = entry_of(self._table, name)
        return shape

    def people_of(self, name):
        """Return the string of the line or ring."""
        _, people = entry_of(self._table, name)
        return people

    def form(self, name):
        """Return the form of the line or ring."""
        shape, people = entry_of(self._table, name)
        return form_by_shape(self._roster, shape, people)

    def are_alike(self, name, other):
        """Tell whether both are lines, or both rings, and the first can be walked to the second."""
        shape, start = entry_of(self._table, name)
        other_shape, goal = entry_of(self._table, other)
        return shape == other_shape and why_not_by_shape(self._roster, shape, start, goal) is None

    def history(self):
        """Return the actions that are not undone, in order, each as the tuple of its edits."""
        return tuple([edits for edits, _ in self._made])

    def twin(self):
        """Return an independent session with the same roster, names and history."""
        other = yard_with(self._roster, self._table)
        other._made = list(self._made)
        other._undone = list(self._undone)
        return other

    def __eq__(self, other):
        if not isinstance(other, Yard):
            return False
        return self._roster == other._roster and self._table == other._table

    def __len__(self):
        return len(self._table)

    def __str__(self):
        return str(yard_text(self))


def yard_with(roster, table):
    """Return a session with the names of a table, which is not modified later, and no history."""
    yard = Yard(roster)
    yard._table = table
    return yard
