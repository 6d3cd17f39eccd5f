"""Tables and ways found by their light, and ways without needless dots."""

from clearsheets.bounds import MAX_DOTS
from clearsheets.errors import TooMany
from clearsheets.tallies import table_with, tally, tally_by_light


def table_of(holders, mode, wanted):
    """Return the table with these lights, None if there is none."""
    tallied = tally_by_light(holders, mode, wanted)
    if tallied is None or min(tallied) < 0:
        return None
    return table_with(holders, tallied)


def way_of(holders, mode, wanted):
    """Return the way with two tables and these gains that has the fewest dots, None if there is none."""
    tallied = tally_by_light(holders, mode, wanted)
    if tallied is None:
        return None
    # With the fewest dots no dot stands in both tables.
    white = [max(many, 0) for many in tallied]
    if sum(white) > MAX_DOTS:
        raise TooMany(MAX_DOTS)
    black = [max(-many, 0) for many in tallied]
    return (holders, mode, (_some_table(holders, white), _some_table(holders, black)))


def slim(way):
    """Return the way without the dots that all its tables have in common."""
    holders, mode, tables = way
    tallies = [tally(holders, table) for table in tables]
    shared = [min([tallied[at] for tallied in tallies]) for at in range(len(tallies[0]))]
    left = [[many - less for many, less in zip(tallied, shared)] for tallied in tallies]
    return (holders, mode, tuple([_some_table(holders, tallied) for tallied in left]))


def _some_table(holders, tallied):
    """Return the table of this tally; a table has a dot, so with none it is that of the one dot ()."""
    return table_with(holders, tallied) or ((),)
