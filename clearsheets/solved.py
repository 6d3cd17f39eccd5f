"""The plan of the greatest contrast by which wants are met, and prices that show that there is no greater one."""

from clearsheets.lights import is_dark
from clearsheets.quotients import fraction
from clearsheets.simplex import greatest
from clearsheets.ways import groups


def best_plan(holders, mode, tones, alike, lighter):
    """Return the contrast, the plan and the prices of the wants, None if no plan meets the wants.

    A want is a triple (group, one, other): for the group both tones have the same light (alike), or the
    first one has more (lighter). There is one of lighter at least, and ((), 0, tone) for each further tone
    stands among alike. Prices are told in the order of the wants, those of alike first.
    """
    wants = alike + lighter
    dots = groups(holders)
    # For each dot of the tone 0 the prices add up to 1 at most, for each one of the others to 0.
    rows = [_row(mode, wants, tone, dot) for tone in range(tones) for dot in dots]
    limits = [1 if at < len(dots) else 0 for at in range(len(rows))]
    worths = [0 if at < len(alike) else 1 for at in range(len(wants))]
    found = greatest(rows, limits, worths, [worth == 0 for worth in worths])
    if found is None:
        return None
    bottom, unknowns, weights = found
    # The dots of each tone weigh as much as the prices of lighter together: the prices of () see to that.
    total = sum(unknowns[len(alike):])
    spread = [fraction(weight, total) for weight in weights]
    plan = tuple([tuple(spread[tone * len(dots):(tone + 1) * len(dots)]) for tone in range(tones)])
    return (fraction(bottom, total), plan, [fraction(number, bottom) for number in unknowns])


def _row(mode, wants, tone, dot):
    """Return how each want counts the light of this dot of the tone."""
    return [_share(tone, one, other) if not is_dark(mode, dot, group) else 0 for group, one, other in wants]


def _share(tone, one, other):
    """Return how the light of the tone counts where that of the tone other is taken from that of one."""
    if tone == one:
        return 1
    return -1 if tone == other else 0
