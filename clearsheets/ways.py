"""Groups of holders, tables of dots, and ways made of tables."""

from clearsheets.bounds import MAX_DOTS, MAX_TONES
from clearsheets.kinds import is_holders, is_mode, is_row, is_whole


def is_group(holders, value):
    """Return whether value is an ascending tuple of some of the holders."""
    if not isinstance(value, tuple):
        return False
    least = 0
    for item in value:
        if not is_whole(item, least, holders - 1):
            return False
        least = item + 1
    return True


def groups(holders):
    """Return all groups of the holders, ascending."""
    return parts(tuple(range(holders)))


def parts(group):
    """Return all groups whose holders are among those of the group, ascending."""
    found = [()]
    for holder in group:
        found = found + [part + (holder,) for part in found]
    return tuple(sorted(found))


def way_error(value):
    """Return None for a way, otherwise the pair that tells what is wrong first."""
    if not is_row(value, 3, 3):
        return (None, "way")
    holders, mode, tables = value
    if not is_holders(holders):
        return (None, "holders")
    if not is_mode(mode):
        return (None, "mode")
    if not is_row(tables, 2, MAX_TONES):
        return (None, "tables")
    return _tables_error(holders, tables)


def _tables_error(holders, tables):
    """Return None if the items are tables alike in dots, otherwise the first fault."""
    for number, table in enumerate(tables):
        if not is_table(holders, table):
            return (number, "table")
        if len(table) != len(tables[0]):
            return (number, "dots")
    return None


def is_table(holders, value):
    """Return whether value is a table of these holders."""
    if not is_row(value, 1, MAX_DOTS):
        return False
    # Only groups are compared: other values may have no order.
    if not all([is_group(holders, dot) for dot in value]):
        return False
    return list(value) == sorted(value)


def dots(way):
    """Return how many dots each table of the way has."""
    return len(way[2][0])
