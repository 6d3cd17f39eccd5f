"""Ways made of ways."""

from clearsheets.bounds import MAX_DOTS, MAX_HOLDERS
from clearsheets.errors import TooMany
from clearsheets.lights import is_dark
from clearsheets.ways import dots, groups


def beside(one, other):
    """Return the way with the dots of both ways for each tone."""
    if dots(one) + dots(other) > MAX_DOTS:
        raise TooMany(MAX_DOTS)
    holders, mode, tables = one
    return (holders, mode, tuple([_table(first + second) for first, second in zip(tables, other[2])]))


def _table(some):
    """Return the table of these dots."""
    return tuple(sorted(some))


def exchanged(way, order):
    """Return the way in which holder number i has the sheet of the holder order[i]."""
    return merged(way, tuple([(holder,) for holder in order]))


def toned(way, tones):
    """Return the way whose tables are those of these tones."""
    holders, mode, tables = way
    return (holders, mode, tuple([tables[tone] for tone in tones]))


def without(way, holder):
    """Return the way without this holder's sheet."""
    return merged(way, tuple([(other,) for other in range(way[0]) if other != holder]))


def merged(way, lots):
    """Return the way with a holder for each of lots, whose sheet is dark where those of the lot are, laid."""
    holders, mode, tables = way
    laid = {dot: _laid(mode, dot, lots) for dot in groups(holders)}
    return (len(lots), mode, tuple([_table([laid[dot] for dot in table]) for table in tables]))


def _laid(mode, dot, lots):
    """Return the numbers of the lots for which the dot is dark."""
    return tuple([number for number, lot in enumerate(lots) if is_dark(mode, dot, lot)])


def handed(outer, holder, inner):
    """Return the way in which the holders of inner have sheets instead of this holder of outer."""
    holders = outer[0] - 1 + inner[0]
    if holders > MAX_HOLDERS:
        raise TooMany(MAX_HOLDERS)
    if dots(outer) * dots(inner) > MAX_DOTS:
        raise TooMany(MAX_DOTS)
    tables = [_handed_table(outer[0], table, holder, inner[2]) for table in outer[2]]
    return (holders, outer[1], tuple(tables))


def _handed_table(holders, table, holder, drawn):
    """Return the table with each dot as the drawn tables tell the holder's, white by 0 and black by 1."""
    found = []
    for dot in table:
        kept = tuple([item - 1 if item > holder else item for item in dot if item != holder])
        for part in drawn[1 if holder in dot else 0]:
            found.append(kept + tuple([holders - 1 + item for item in part]))
    return _table(found)
