"""Wishes for several tones: what goes against them, and the ways of the greatest contrast that meet them."""

from clearsheets.bounds import MAX_COUNTED, MAX_TONES
from clearsheets.kinds import is_mode, is_row, is_whole, is_word
from clearsheets.lights import cut, light
from clearsheets.solved import best_plan
from clearsheets.ways import groups, is_group, parts
from clearsheets.within import is_covered

KINDS = ("alike", "lighter")


def wishes_error(value):
    """Return None for wishes, otherwise the pair that tells what is wrong first."""
    if not is_row(value, 4, 4):
        return (None, "wishes")
    holders, mode, tones, wants = value
    if not is_whole(holders, 1, MAX_COUNTED):
        return (None, "holders")
    if not is_mode(mode):
        return (None, "mode")
    if not is_whole(tones, 2, MAX_TONES):
        return (None, "tones")
    if not isinstance(wants, tuple):
        return (None, "wants")
    for number, want in enumerate(wants):
        if not _is_want(holders, tones, want):
            return (number, "want")
        if number > 0 and want <= wants[number - 1]:
            return (number, "order")
    return None


def _is_want(holders, tones, value):
    """Return whether value, of any kind, is a want."""
    if not is_row(value, 4, 4):
        return False
    kind, group, one, other = value
    if not _is_step(tones, (kind, one, other)) or not is_group(holders, group):
        return False
    return one < other or kind == "lighter" and one > other


def _is_step(tones, value):
    """Return whether value, of any kind, is a triple of a kind and two tones."""
    if not is_row(value, 3, 3):
        return False
    kind, one, other = value
    return is_word(kind, KINDS) and is_whole(one, 0, tones - 1) and is_whole(other, 0, tones - 1)


def meets(way, wishes):
    """Return whether the way meets all wants of the wishes."""
    return all([_is_met(way, want) for want in wishes[3]])


def _is_met(way, want):
    """Return whether the way meets the want."""
    kind, group, one, other = want
    if kind == "alike":
        return cut(way, one, group) == cut(way, other, group)
    return light(way, one, group) > light(way, other, group)


def ring(wishes):
    """Return a ring of the wishes, None if there is none."""
    holders, _, tones, _ = wishes
    pairs = [(one, other) for one in range(tones) for other in range(tones)]
    for group in groups(holders):
        steps = [(kind, one, other) for kind in KINDS for one, other in pairs
                 if _stands(wishes, group, (kind, one, other))]
        for step in steps:
            back = _path(steps, step[2], step[1])
            if step[0] == "lighter" and back is not None:
                return (group, (step,) + back)
    return None


def _stands(wishes, group, step):
    """Return whether the wishes let the step stand for the group."""
    kind, one, other = step
    wants = wishes[3]
    if kind == "lighter":
        return ("lighter", group, one, other) in wants
    if group == ():
        return one != other
    # Who sees no difference sees none with some of the sheets alone.
    some = [want[1] for want in wants if want[0] == "alike" and want[2:] in ((one, other), (other, one))]
    return is_covered(some, group)


def _path(steps, start, end):
    """Return some of the steps that lead from one tone to another, None if none do."""
    paths = {start: ()}
    for _ in steps:
        for step in steps:
            if step[1] in paths and step[2] not in paths:
                paths[step[2]] = paths[step[1]] + (step,)
    return paths.get(end, None)


def ring_holds(wishes, value):
    """Return whether value, of any kind, is a ring of the wishes."""
    holders, _, tones, _ = wishes
    if not is_row(value, 2, 2):
        return False
    group, steps = value
    if not is_group(holders, group) or not isinstance(steps, tuple) or len(steps) < 2:
        return False
    if not all([_is_step(tones, step) for step in steps]):
        return False
    # The step ahead of the first one, number -1, is the last one.
    closed = all([step[1] == steps[number - 1][2] for number, step in enumerate(steps)])
    lighter = any([step[0] == "lighter" for step in steps])
    return closed and lighter and all([_stands(wishes, group, step) for step in steps])


def best_for(wishes):
    """Return the greatest contrast of ways that meet the wishes, and a plan with it, None if no way does."""
    holders, mode, tones, wants = wishes
    lighter = [want[1:] for want in wants if want[0] == "lighter"]
    if not lighter:
        return ((1, 1), (_same_dots(holders),) * tones)
    found = best_plan(holders, mode, tones, _alike(wishes), lighter)
    if found is None:
        return None
    most, plan, _ = found
    return (most, plan)


def _same_dots(holders):
    """Return the shares of a tone all dots of which are ()."""
    return tuple([(1, 1) if group == () else (0, 1) for group in groups(holders)])


def _alike(wishes):
    """Return for which groups which two tones have the same light."""
    _, _, tones, wants = wishes
    found = [((), 0, tone) for tone in range(1, tones)]
    for kind, group, one, other in wants:
        if kind == "alike":
            found = found + [(part, one, other) for part in parts(group)]
    return sorted(set(found))


def several(holders, mode, seers, hides):
    """Return the wishes by which each seer sees one of two pictures alone, and the hides see nothing."""
    wants = []
    for group, picture in seers:
        wants = wants + _seen(group, [tone // 2 if picture == 0 else tone % 2 for tone in range(4)])
    for group in hides:
        # For who is to see nothing all spots are as if they were white.
        wants = wants + _seen(group, [0] * 4)
    return (holders, mode, 4, tuple(sorted(set(wants))))


def _seen(group, shades):
    """Return the wants by which the group sees of each tone just its shade, white (0) or black (1)."""
    found = []
    for one, first in enumerate(shades):
        for other, second in enumerate(shades):
            if first < second:
                found.append(("lighter", group, one, other))
            elif first == second and one < other:
                found.append(("alike", group, one, other))
    return found
