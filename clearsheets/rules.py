"""Rules: which groups are to see, and which are to learn nothing."""

from clearsheets.errors import BadRule, NotKept
from clearsheets.kinds import is_holders, is_row
from clearsheets.lights import gains, told
from clearsheets.quotients import fraction
from clearsheets.ways import dots, groups, is_group
from clearsheets.within import is_covered, is_opened, outermost


def rule_error(value):
    """Return None for a rule, otherwise the pair that tells what is wrong first."""
    if not is_row(value, 3, 3):
        return (None, "rule")
    holders, shows, hides = value
    if not is_holders(holders):
        return (None, "holders")
    if not isinstance(shows, tuple):
        return (None, "shows")
    if not isinstance(hides, tuple):
        return (None, "hides")
    error = _groups_error(holders, shows)
    if error is None:
        error = _groups_error(holders, hides)
    if error is None:
        error = _barred_error(shows, hides)
    return error


def _groups_error(holders, some):
    """Return None if the items are ascending groups, otherwise the first fault."""
    for number, group in enumerate(some):
        if not is_group(holders, group):
            return (number, "group")
        if number > 0 and group <= some[number - 1]:
            return (number, "order")
    return None


def _barred_error(shows, hides):
    """Return None if each show may see, otherwise the fault of the first that may not."""
    for number, group in enumerate(shows):
        if group == () or is_covered(hides, group):
            return (number, "barred")
    return None


def checked_rule(value):
    """Return the value, which may be of any kind, if it is a rule; otherwise raise BadRule with what is wrong."""
    error = rule_error(value)
    if error is not None:
        number, word = error
        raise BadRule(number, word)
    return value


def blinded(rule):
    """Return the groups that learn nothing where the rule is kept: the parts of its hides, and ()."""
    holders, _, hides = rule
    return [group for group in groups(holders) if group == () or is_covered(hides, group)]


def broken(way, rule):
    """Return None if the way keeps the rule, otherwise which show or hide it breaks first."""
    holders, shows, hides = rule
    gained = {group: gain for group, gain in zip(groups(holders), gains(way))}
    for group in shows:
        if gained[group] <= 0:
            return ("show", group)
    for group in hides:
        if len(told(way, group)) > 1:
            return ("hide", group)
    return None


def keeps(way, rule):
    """Return whether the way keeps the rule."""
    return broken(way, rule) is None


def contrast(way, rule):
    """Return the least gain of the shows by the number of dots, (1, 1) if there are no shows."""
    found = broken(way, rule)
    if found is not None:
        raise NotKept(found)
    holders, shows, _ = rule
    if not shows:
        return (1, 1)
    least = min([gain for group, gain in zip(groups(holders), gains(way)) if group in shows])
    return fraction(least, dots(way))


def of_size(holders, many):
    """Return the rule by which many holders see, and fewer learn nothing."""
    every = groups(holders)
    shows = tuple([group for group in every if len(group) >= many])
    hides = tuple([group for group in every if len(group) == many - 1])
    return (holders, shows, hides)


def opening(holders, some):
    """Return the rule by which a group with one of some as a part sees, and all others learn nothing."""
    every = groups(holders)
    shows = tuple([group for group in every if is_opened(some, group)])
    hides = outermost([group for group in every if not is_opened(some, group)])
    return (holders, shows, hides)
