"""The checks that several parts of the program share, with the errors that they raise."""

from farreads.errors import InvalidCell, InvalidNumber, InvalidRead, InvalidShifts, InvalidSystem, UnknownTable

MOST_DIMENSIONS = 3
MOST_TABLES = 6
MOST_READS = 12
MOST_LETTERS = 8


def is_name(text):
    """Tell if a text may be the name of a table."""
    return 1 <= len(text) <= MOST_LETTERS and all(["a" <= letter <= "z" for letter in text])


def is_read(read, dimensions):
    """Tell if a read is well formed, whether its table exists or not."""
    table, vector, factor = read
    return is_name(table) and len(vector) == dimensions and factor != 0


def is_cell(system, cell):
    """Tell if a tuple (name, point) is a cell of the system."""
    name, point = cell
    return name in system.names and is_point(system, point)


def is_point(system, point):
    """Tell if a tuple is a point of the quadrant that the system is defined on."""
    return len(point) == system.dimensions and all([place >= 0 for place in point])


def check_system(dimensions, tables, modulus):
    """System check."""
    if not 1 <= dimensions <= MOST_DIMENSIONS:
        raise InvalidNumber(dimensions)
    if not 1 <= len(tables) <= MOST_TABLES:
        raise InvalidSystem(-1)
    check_tables(dimensions, tables)
    check_tables_that_are_read(tables)
    if modulus < 2:
        raise InvalidNumber(modulus)


def check_tables(dimensions, tables):
    """Raise the error of the first table that is wrong by itself or beside the earlier ones."""
    names = [table[0] for table in tables]
    many = 0
    for row, (name, _, reads) in enumerate(tables):
        many += len(reads)
        if not is_name(name) or name in names[:row] or many > MOST_READS:
            raise InvalidSystem(row)
        if not all([is_read(read, dimensions) for read in reads]):
            raise InvalidSystem(row)


def check_tables_that_are_read(tables):
    """Raise the error of the first table that reads a table which is not there."""
    names = [table[0] for table in tables]
    for row, table in enumerate(tables):
        if not all([read[0] in names for read in table[2]]):
            raise InvalidSystem(row)


def check_table(system, name):
    """Raise an error if the system has no table of this name."""
    if name not in system.names:
        raise UnknownTable(name)


def check_top(system, name, top):
    """Raise an error if the system has no table of this name, or a top is negative."""
    check_table(system, name)
    if top < 0:
        raise InvalidNumber(top)


def check_cell(system, cell):
    """Cell check."""
    name, point = cell
    check_table(system, name)
    if not is_point(system, point):
        raise InvalidCell(cell)


def check_read(system, read):
    """Read check."""
    name, number = read
    if name not in system.names or not 0 <= number < len(system.reads(name)):
        raise InvalidRead(read)


def check_shifts(system, shifts):
    """Raise an error if a dict is no shift of the system."""
    for name in system.names:
        if name not in shifts or len(shifts[name]) != system.dimensions:
            raise InvalidShifts(name)
    for name in sorted(shifts):
        if name not in system.names:
            raise InvalidShifts(name)
