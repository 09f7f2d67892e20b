"""Reads as links between tables, and the pieces in which they hang together."""


def links_of(system):
    """Return a dict from all named reads, ascending, to tuples (table that reads, table that is read, vector)."""
    links = {}
    for name, number in system.all_reads():
        table, vector, _ = system.reads(name)[number]
        links[(name, number)] = (name, table, vector)
    return links


def pieces(links):
    """Return the list of the pieces of a dict of links, each one a dict of links."""
    labels = {}
    for reader, table, _ in links.values():
        join(labels, reader, table)
    found = {label: {} for label in labels.values()}
    for read, link in links.items():
        found[labels[link[0]]][read] = link
    return list(found.values())


def piece_of(links, name):
    """Return the piece of a dict of links to which a table belongs; it is empty if no link joins the table."""
    for piece in pieces(links):
        if name in tables_of(list(piece.values())):
            return piece
    return {}


def tables_of(links):
    """Return the ascending list of the names of the tables that a list of links joins."""
    return sorted(set([link[0] for link in links] + [link[1] for link in links]))


def join(labels, one, other):
    """Give all tables that are of one piece with two tables the same label."""
    kept = labels.setdefault(one, one)
    lost = labels.setdefault(other, other)
    for name in list(labels):
        if labels[name] == lost:
            labels[name] = kept
