"""Systems: tables whose cells read other cells at fixed distances."""

from farreads.checks import check_read, check_system, check_table, is_name
from farreads.errors import InvalidAxes, InvalidName


class System:
    """A system of tables over an endless quadrant; it never changes."""

    def __init__(self, dimensions, tables, modulus=1000003):
        check_system(dimensions, tables, modulus)
        self._dimensions = dimensions
        self._modulus = modulus
        rows = sorted(tables, key=lambda table: table[0])
        self._tables = {name: (constant, tuple(reads)) for name, constant, reads in rows}

    def __len__(self):
        return len(self._tables)

    def __eq__(self, other):
        return (
            isinstance(other, System)
            and self._dimensions == other._dimensions
            and self._modulus == other._modulus
            and self._tables == other._tables
        )

    @property
    def dimensions(self):
        """The number of dimensions."""
        return self._dimensions

    @property
    def modulus(self):
        """The modulus."""
        return self._modulus

    @property
    def names(self):
        """The ascending list of the names of the tables."""
        return list(self._tables)

    def constant(self, name):
        """Return the constant of a table."""
        check_table(self, name)
        return self._tables[name][0]

    def reads(self, name):
        """Return the list of the reads of a table."""
        check_table(self, name)
        return list(self._tables[name][1])

    def all_reads(self):
        """Return the ascending list of all named reads."""
        return [(name, number) for name in self._tables for number in range(len(self._tables[name][1]))]

    def without(self, reads):
        """Return the system without a list of named reads."""
        for read in reads:
            check_read(self, read)
        tables = {}
        for name, (constant, own) in self._tables.items():
            kept = [read for number, read in enumerate(own) if (name, number) not in reads]
            tables[name] = (constant, tuple(kept))
        return self._with_tables(tables)

    def beside(self, other):
        """Return the system with the tables of this one and of another one."""
        for name in self._tables:
            if name in other._tables:
                raise InvalidName(name)
        return self._with_tables({**self._tables, **other._tables})

    def renamed(self, names):
        """Return the system in which tables have other names, by a dict from old names to new ones."""
        for name in sorted(names):
            check_table(self, name)
        new_names = {name: names.get(name, name) for name in self._tables}
        self._check_new_names(sorted(names), new_names)
        tables = {}
        for name, (constant, own) in self._tables.items():
            reads = [(new_names[table], vector, factor) for table, vector, factor in own]
            tables[new_names[name]] = (constant, tuple(reads))
        return self._with_tables(tables)

    def exchanged(self, axes):
        """Return the system in which the coordinate i of all vectors is what axes[i] was."""
        if sorted(axes) != list(range(self._dimensions)):
            raise InvalidAxes(axes)
        tables = {}
        for name, (constant, own) in self._tables.items():
            reads = [(table, tuple([vector[axis] for axis in axes]), factor) for table, vector, factor in own]
            tables[name] = (constant, tuple(reads))
        return self._with_tables(tables)

    def with_table(self, name, constant, reads):
        """Return the system with another constant and other reads of a table; callers have checked them."""
        return self._with_tables({**self._tables, name: (constant, tuple(reads))})

    def _check_new_names(self, changed, new_names):
        all_names = list(new_names.values())
        for name in changed:
            if not is_name(new_names[name]) or all_names.count(new_names[name]) > 1:
                raise InvalidName(new_names[name])

    def _with_tables(self, tables):
        # System check is not among the errors of the methods that come here, so the tables are put
        # into a system that has passed it: two systems side by side may be a little too great for it.
        made = System(self._dimensions, [("a", 0, [])], self._modulus)
        made._tables = {name: tables[name] for name in sorted(tables)}
        return made
