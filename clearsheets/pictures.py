"""Pictures drawn as sheets, sheets laid and read, and what sheets tell of the picture."""

from math import factorial

from clearsheets.lights import cut, is_dark, light
from clearsheets.ways import dots


def draw(way, picture, orders):
    """Return the sheets of the picture, the dots of each spot coming in the order told for it."""
    tables = [way[2][tone] for tone in _spots(picture)]
    drawn = [[table[number] for number in order] for table, order in zip(tables, orders)]
    return tuple([tuple([_marks(holder, spot) for spot in drawn]) for holder in range(way[0])])


def _spots(picture):
    """Return the tones of the picture's spots, row by row."""
    return [tone for row in picture for tone in row]


def _marks(holder, some):
    """Return 1 for each of the dots that the holder has black, 0 for the others."""
    return tuple([1 if holder in dot else 0 for dot in some])


def lay(way, sheets, group):
    """Return how many dots are not dark at each spot where the sheets of the group are laid."""
    every = tuple(range(way[0]))
    return tuple([len([dot for dot in spot if not is_dark(way[1], dot, group)]) for spot in _dots_seen(every, sheets)])


def _dots_seen(group, seen):
    """Return for each spot, in order, the dots as the sheets of the group have them."""
    found = []
    for spot in range(len(seen[0])):
        marks = [sheet[spot] for sheet in seen]
        found.append([_dot(group, marks, at) for at in range(len(marks[0]))])
    return found


def _dot(group, marks, at):
    """Return those of the group whose marks at this place are black."""
    return tuple([holder for holder, some in zip(group, marks) if some[at] == 1])


def read(way, group, seen):
    """Return for each number the tones that have so much light for the group."""
    lit = [light(way, tone, group) for tone in range(len(way[2]))]
    return tuple([tuple([tone for tone, many in enumerate(lit) if many == number]) for number in seen])


def drawings(way, picture, group, seen):
    """Return by how many tuples of orders the picture's sheets of the group come to be what was seen."""
    spots = _spots(picture)
    # Who has no sheets sees as many dots as there are, and nothing of any of them.
    looks = _dots_seen(group, seen) if group else [[()] * dots(way) for _ in spots]
    found = 1
    for tone, look in zip(spots, looks):
        found = found * _orders(cut(way, tone, group), look)
    return found


def _orders(dim, look):
    """Return in how many orders the dots that are left come to be the look."""
    if tuple(sorted(look)) != dim:
        return 0
    found = 1
    # Dots that are alike for the group come in any order among themselves.
    for dot in sorted(set(look)):
        found = found * factorial(look.count(dot))
    return found


def suspects(way, group, seen):
    """Return for each spot the tones whose dots can be seen so in some order."""
    dim = [cut(way, tone, group) for tone in range(len(way[2]))]
    looks = [tuple(sorted(look)) for look in _dots_seen(group, seen)]
    return tuple([tuple([tone for tone, left in enumerate(dim) if left == look]) for look in looks])
