"""What groups of holders see of a way, and what they know of it."""

from clearsheets.lots import in_lots
from clearsheets.ways import groups, parts
from clearsheets.within import innermost, outermost


def is_dark(mode, dot, group):
    """Return whether the dot is dark when the sheets of the group are laid."""
    black = len([holder for holder in group if holder in dot])
    if mode == "odd":
        return black % 2 == 1
    return black > 0


def light(way, tone, group):
    """Return how many dots of the tone's table are not dark for the group."""
    _, mode, tables = way
    return len([dot for dot in tables[tone] if not is_dark(mode, dot, group)])


def lights(way, tone):
    """Return the light of the tone for each group."""
    return tuple([light(way, tone, group) for group in groups(way[0])])


def gains(way, one=0, other=1):
    """Return how much more light the tone one has than the tone other, for each group."""
    return tuple([light(way, one, group) - light(way, other, group) for group in groups(way[0])])


def cut(way, tone, group):
    """Return what the sheets of the group have of the dots of the tone, sorted."""
    return tuple(sorted([tuple([holder for holder in dot if holder in group]) for dot in way[2][tone]]))


def told(way, group):
    """Return the tones in lots of those that the group does not tell apart."""
    return in_lots([cut(way, tone, group) for tone in range(len(way[2]))])


def shown(way, group):
    """Return the tones in lots of those that have the same light for the group."""
    return in_lots([light(way, tone, group) for tone in range(len(way[2]))])


def unlike_part(way, one, other, group):
    """Return the first of the smallest parts of the group that show the tones, None if there is none."""
    found = [part for part in parts(group) if light(way, one, part) != light(way, other, part)]
    if not found:
        return None
    return min([(len(part), part) for part in found])[1]


def blind(way):
    """Return the groups that tell no tones apart and are parts of no other such group."""
    return outermost([group for group in groups(way[0]) if len(told(way, group)) == 1])


def sighted(way):
    """Return the groups that tell all tones apart and have no other such group as a part."""
    return innermost([group for group in groups(way[0]) if len(told(way, group)) == len(way[2])])
