"""Rules made of rules, and what they ask of one another."""

from clearsheets.rules import checked_rule
from clearsheets.ways import groups
from clearsheets.within import is_covered, outermost


def both(one, other):
    """Return the rule with the shows and the hides of both rules."""
    shows = tuple(sorted(set(one[1] + other[1])))
    hides = tuple(sorted(set(one[2] + other[2])))
    return checked_rule((one[0], shows, hides))


def slimmed(rule):
    """Return the rule without the hides that are parts of other hides."""
    holders, shows, hides = rule
    return (holders, shows, outermost(hides))


def asks(one, other):
    """Return whether each way that keeps the rule one keeps the rule other."""
    shown = all([group in one[1] for group in other[1]])
    # Who has no sheets learns nothing from any way.
    return shown and all([group == () or is_covered(one[2], group) for group in other[2]])


def left_out(rule, holder):
    """Return the rule of the other holders, numbered anew, with what does not have this holder."""
    holders, shows, hides = rule
    return (holders - 1, _without(shows, holder), _without(hides, holder))


def _without(some, holder):
    """Return the groups that do not have the holder, with those behind it numbered one less."""
    kept = [group for group in some if holder not in group]
    return tuple([tuple([item - 1 if item > holder else item for item in group]) for group in kept])


def reordered(rule, order):
    """Return the rule by which each group is what that of the holders told by the order is now."""
    holders, shows, hides = rule
    return (holders, _reordered_groups(holders, shows, order), _reordered_groups(holders, hides, order))


def _reordered_groups(holders, some, order):
    """Return the groups whose holders' holders by the order are one of some."""
    return tuple([group for group in groups(holders) if tuple(sorted([order[item] for item in group])) in some])
