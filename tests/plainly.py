"""The document's words done the plainest way, and values to try them on; nothing here calls the package."""

import random
from itertools import combinations, combinations_with_replacement, product

MODES = ("any", "odd")
HOLDERS = (1, 2, 3, 4, 5)
TONES = (2, 3, 4)


def all_groups(holders):
    """Return all groups of the holders, ascending."""
    return sorted(group for size in range(holders + 1) for group in combinations(range(holders), size))


def part_of(part, group):
    return set(part) <= set(group)


def all_tables(holders, many):
    """Return all tables of the holders with that many dots."""
    return list(combinations_with_replacement(all_groups(holders), many))


def plain_light(mode, table, group):
    """Return how many dots of the table let light through the sheets of the group."""
    black = [len(set(dot) & set(group)) for dot in table]
    return sum(number == 0 if mode == "any" else number % 2 == 0 for number in black)


def plain_lights(holders, mode, table):
    return tuple(plain_light(mode, table, group) for group in all_groups(holders))


def plain_gains(way, one=0, other=1):
    holders, mode, tables = way
    first, second = plain_lights(holders, mode, tables[one]), plain_lights(holders, mode, tables[other])
    return tuple(first[at] - second[at] for at in range(len(first)))


def plain_cut(table, group):
    """Return what is left of the dots for the group, in order."""
    return tuple(sorted(tuple(sorted(set(dot) & set(group))) for dot in table))


def plain_lots(tones, alike):
    """Return the tones in lots, for a function that tells whether two are alike."""
    lots = []
    for tone in range(tones):
        for lot in lots:
            if alike(lot[0], tone):
                lot.append(tone)
                break
        else:
            lots.append([tone])
    return tuple(tuple(lot) for lot in lots)


def plain_told(way, group):
    tables = way[2]
    return plain_lots(len(tables), lambda one, other: plain_cut(tables[one], group) == plain_cut(tables[other], group))


def plain_keeps(way, rule):
    """Return whether the way keeps the rule, by the definition alone."""
    holders, mode, (white, black) = way
    lighter = all(plain_light(mode, white, group) > plain_light(mode, black, group) for group in rule[1])
    return lighter and all(plain_cut(white, group) == plain_cut(black, group) for group in rule[2])


def some_table(chance, holders, many):
    every = all_groups(holders)
    return tuple(sorted(chance.choice(every) for _ in range(many)))


def some_way(chance, holders, mode, tones, many):
    """Return a way drawn by chance, often with equal dots, at times with equal tables."""
    tables = [some_table(chance, holders, many) for _ in range(tones)]
    if chance.random() < 0.2:
        tables[-1] = tables[0]
    if chance.random() < 0.3:
        # A tone whose dots are another's with one holder's sheet shuffled is not told apart by few.
        tables[1] = shuffled(chance, holders, tables[0])
    return (holders, mode, tuple(tables))


def shuffled(chance, holders, table):
    """Return the table with one holder's black dots laid otherwise among the dots."""
    holder = chance.randrange(holders)
    marks = [holder in dot for dot in table]
    chance.shuffle(marks)
    others = [[item for item in dot if item != holder] for dot in table]
    return tuple(sorted(tuple(sorted(rest + [holder] * mark)) for rest, mark in zip(others, marks)))


def some_ways(each=6, tones=TONES, holders=HOLDERS, most=6):
    """Return ways of both modes, of each number of holders and tones: the same ones each time."""
    chance = random.Random(7)
    return [some_way(chance, number, mode, many, chance.randint(1, most))
            for number, mode, many in product(holders, MODES, tones) for _ in range(each)]


def some_rule(chance, holders):
    """Return a rule drawn by chance: some groups hidden, some of the others shown."""
    every = all_groups(holders)
    hides = sorted(chance.sample(every[:-1], chance.randint(0, min(4, len(every) - 1))))
    free = [group for group in every[1:] if not any(part_of(group, hide) for hide in hides)]
    shows = sorted(chance.sample(free, chance.randint(0, min(4, len(free)))))
    return (holders, tuple(shows), tuple(hides))


def some_rules(holders, each=30):
    chance = random.Random(11)
    return [some_rule(chance, holders) for _ in range(each)]
