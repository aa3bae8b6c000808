"""Benches, which keep machines and programs, edit them, and answer what is asked of them."""

from straylanes.books import book_error, guard_error
from straylanes.bounds import MAX_EDITS
from straylanes.errors import BadBook, LaneError, NothingToRedo, NothingToUndo, NoVersion, TooManyEdits, Unfit
from straylanes.guards import reach
from straylanes.integers import is_within
from straylanes.results import told_for_all
from straylanes.shelves import edited, is_program, thing_named


class Bench:
    """A shelf of names with machines and programs, which edits change, and from which they can be taken back."""

    def __init__(self):
        # Tuples throughout, so that a copy or an attempt has only to keep them.
        self._shelves = ((),)
        self._log = ()
        self._undone = ()
        self._names = ()
        self._kept = {}

    @property
    def shelf(self):
        """The ascending tuple of pairs of a name and a thing."""
        return self._shelves[-1]

    @property
    def version(self):
        """How many edits stand."""
        return len(self._log)

    @property
    def log(self):
        """The tuple of the edits that stand, each a tuple of its word and its arguments."""
        return self._log

    @property
    def made(self):
        """How many answers were made, and not only told again."""
        return len(self._kept)

    def __len__(self):
        return len(self._names)

    def __contains__(self, x):
        return x in self._names

    def __getitem__(self, at):
        return thing_named(self._shelves[-1], at)

    def __iter__(self):
        return iter(self._names)

    def __eq__(self, other):
        return isinstance(other, Bench) and self._shelves[-1] == other._shelves[-1]

    def __ne__(self, other):
        return not self == other

    def keep(self, name, thing):
        """Put thing, a machine or a program, on the shelf by name; return the new version, as all edits do."""
        return self.do(("keep", name, thing))

    def drop(self, name):
        """Take name off the shelf, with its thing."""
        return self.do(("drop", name))

    def lane_put(self, name, modulus):
        """Put one more lane behind all others of the machine of name."""
        return self.do(("lane_put", name, modulus))

    def lane_taken(self, name, lane):
        """Take this lane from the machine of name."""
        return self.do(("lane_taken", name, lane))

    def step_put(self, name, step):
        """Put one more step at the end of the program of name."""
        return self.do(("step_put", name, step))

    def step_taken(self, name):
        """Take the last step from the program of name."""
        return self.do(("step_taken", name))

    def batch(self, edits):
        """Do edits, a tuple of edit tuples, one behind another, as one edit."""
        return self.do(("batch", edits))

    def do(self, edit):
        """Do the edit of an edit tuple; return the new version."""
        shelf = edited(self._shelves[-1], edit)
        if len(self._log) >= MAX_EDITS:
            raise TooManyEdits()
        self._stand(self._shelves + (shelf,), self._log + (edit,), ())
        return len(self._log)

    def _stand(self, shelves, log, undone):
        """Let these edits stand, with the shelf at each version, and these pairs of an edit and its shelf undone."""
        self._shelves = shelves
        self._log = log
        self._undone = undone
        self._names = tuple([name for name, _ in shelves[-1]])

    def undo(self):
        """Take back the last edit that stands; return the version then."""
        if len(self._log) == 0:
            raise NothingToUndo()
        undone = self._undone + ((self._log[-1], self._shelves[-1]),)
        self._stand(self._shelves[:-1], self._log[:-1], undone)
        return len(self._log)

    def redo(self):
        """Do the edit again that was taken back last; return the version then."""
        if len(self._undone) == 0:
            raise NothingToRedo()
        edit, shelf = self._undone[-1]
        self._stand(self._shelves + (shelf,), self._log + (edit,), self._undone[:-1])
        return len(self._log)

    def at(self, version):
        """Return the shelf when so many of the edits that stand stood."""
        if not is_within(version, 0, len(self._log)):
            raise NoVersion(version)
        return self._shelves[version]

    def copy(self):
        """Return a bench that is as this one, and goes on by itself."""
        other = Bench()
        other._stand(self._shelves, self._log, self._undone)
        other._kept = {ask: self._kept[ask] for ask in self._kept}
        return other

    def attempt(self, work):
        """Return work(self); if it raises a LaneError take back all that it did, but for what was made."""
        shelves, log, undone = self._shelves, self._log, self._undone
        try:
            return work(self)
        except LaneError:
            self._stand(shelves, log, undone)
            raise

    def reach_of(self, name, guard):
        """Return reach of the machine of name and of guard."""
        machine = thing_named(self._shelves[-1], name)
        if is_program(machine):
            raise Unfit()
        error = guard_error(machine, guard)
        if error is not None:
            raise BadBook(error)
        ask = ("reach", machine, guard)
        if ask not in self._kept:
            self._kept[ask] = reach(machine, guard)
        return self._kept[ask]

    def told(self, name, other, book):
        """Return told_for_all of the machine of name, of the program of other, and of book."""
        machine, program = thing_named(self._shelves[-1], name), thing_named(self._shelves[-1], other)
        if is_program(machine) or not is_program(program):
            raise Unfit()
        error = book_error(machine, book)
        if error is not None:
            raise BadBook(error)
        ask = ("told", machine, program, book)
        if ask not in self._kept:
            self._kept[ask] = told_for_all(machine, program, book)
        return self._kept[ask]
