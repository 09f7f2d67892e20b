"""Sheets: systems that change, call by call, and back again."""

from farreads.checks import MOST_READS, check_table, is_read
from farreads.errors import InvalidRead, NothingToUndo
from farreads.levels import count_levels
from farreads.readings import read_system
from farreads.ready import least_unready

UNREADY_TOP = 2


class Sheet:
    """A small system that changes."""

    def __init__(self, system):
        self._system = system.without([])
        # The systems before each call that can be taken back.
        self._former = []

    def __eq__(self, other):
        return isinstance(other, Sheet) and self._system == other._system

    @classmethod
    def of_text(cls, text):
        """Return a sheet with the system of a text."""
        return cls(read_system(text))

    @property
    def system(self):
        """The present system."""
        return self._system

    def add(self, name, read):
        """Add a read at the end of the list of a table; return the numbers of levels before and after."""
        check_table(self._system, name)
        if not self._takes(read):
            raise InvalidRead(read)
        reads = self._system.reads(name) + [read]
        return self._change(self._system.with_table(name, self._system.constant(name), reads))

    def drop(self, name, number):
        """Take a read away; return the numbers of levels before and after."""
        return self._change(self._system.without([(name, number)]))

    def put(self, name, constant):
        """Give a table another constant; return the numbers of levels before and after."""
        return self._change(self._system.with_table(name, constant, self._system.reads(name)))

    def undo(self):
        """Take back the last of the calls above that has not been taken back yet."""
        if not self._former:
            raise NothingToUndo(0)
        self._system = self._former.pop()

    def unready(self):
        """Yield the cells of all tables at the least points, up to 2, at which they are not ready."""
        for name in self._system.names:
            for point in least_unready(self._system, name, UNREADY_TOP):
                yield (name, point)

    def _takes(self, read):
        system = self._system
        room = len(system.all_reads()) < MOST_READS
        return room and read[0] in system.names and is_read(read, system.dimensions)

    def _change(self, system):
        counts = (count_levels(self._system), count_levels(system))
        self._former.append(self._system)
        self._system = system
        return counts
