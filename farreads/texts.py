"""Systems and cells as texts."""


def show_system(system):
    """Return the text that writes a system."""
    tables = [show_table(name, system.constant(name), system.reads(name)) for name in system.names]
    return f"{system.dimensions} mod {system.modulus}: " + "; ".join(tables)


def show_cell(cell):
    """Return the text that writes a cell."""
    name, point = cell
    return name + "[" + " ".join([str(place) for place in point]) + "]"


def show_table(name, constant, reads):
    """Return the equation of a table."""
    return " ".join([name, "=", str(constant)] + [show_read(read) for read in reads])


def show_read(read):
    """Return the part of an equation that writes a read."""
    table, vector, factor = read
    words = ["-" if factor < 0 else "+", show_cell((table, vector))]
    if abs(factor) != 1:
        words.insert(1, str(abs(factor)))
    return " ".join(words)
