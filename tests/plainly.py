"""The document's words done the plainest way, and values to try them on; nothing here calls the package."""

import random
from fractions import Fraction
from itertools import combinations, combinations_with_replacement, product

MODES = ("any", "odd")
HOLDERS = (1, 2, 3, 4, 5)
TONES = (2, 3, 4)


def all_groups(holders):
    """Return all groups of the holders, ascending."""
    return sorted(group for size in range(holders + 1) for group in combinations(range(holders), size))


def part_of(part, group):
    return set(part) <= set(group)


def all_tables(holders, many):
    """Return all tables of the holders with that many dots."""
    return list(combinations_with_replacement(all_groups(holders), many))


def plain_light(mode, table, group):
    """Return how many dots of the table let light through the sheets of the group."""
    black = [len(set(dot) & set(group)) for dot in table]
    return sum(number == 0 if mode == "any" else number % 2 == 0 for number in black)


def plain_lights(holders, mode, table):
    return tuple(plain_light(mode, table, group) for group in all_groups(holders))


def plain_gains(way, one=0, other=1):
    holders, mode, tables = way
    first, second = plain_lights(holders, mode, tables[one]), plain_lights(holders, mode, tables[other])
    return tuple(first[at] - second[at] for at in range(len(first)))


def plain_cut(table, group):
    """Return what is left of the dots for the group, in order."""
    return tuple(sorted(tuple(sorted(set(dot) & set(group))) for dot in table))


def plain_lots(tones, alike):
    """Return the tones in lots, for a function that tells whether two are alike."""
    lots = []
    for tone in range(tones):
        for lot in lots:
            if alike(lot[0], tone):
                lot.append(tone)
                break
        else:
            lots.append([tone])
    return tuple(tuple(lot) for lot in lots)


def plain_told(way, group):
    tables = way[2]
    return plain_lots(len(tables), lambda one, other: plain_cut(tables[one], group) == plain_cut(tables[other], group))


def plain_keeps(way, rule):
    """Return whether the way keeps the rule, by the definition alone."""
    holders, mode, (white, black) = way
    lighter = all(plain_light(mode, white, group) > plain_light(mode, black, group) for group in rule[1])
    return lighter and all(plain_cut(white, group) == plain_cut(black, group) for group in rule[2])


def some_table(chance, holders, many):
    every = all_groups(holders)
    return tuple(sorted(chance.choice(every) for _ in range(many)))


def some_way(chance, holders, mode, tones, many):
    """Return a way drawn by chance, often with equal dots, at times with equal tables."""
    tables = [some_table(chance, holders, many) for _ in range(tones)]
    if chance.random() < 0.2:
        tables[-1] = tables[0]
    if chance.random() < 0.3:
        # A tone whose dots are another's with one holder's sheet shuffled is not told apart by few.
        tables[1] = shuffled(chance, holders, tables[0])
    return (holders, mode, tuple(tables))


def shuffled(chance, holders, table):
    """Return the table with one holder's black dots laid otherwise among the dots."""
    holder = chance.randrange(holders)
    marks = [holder in dot for dot in table]
    chance.shuffle(marks)
    others = [[item for item in dot if item != holder] for dot in table]
    return tuple(sorted(tuple(sorted(rest + [holder] * mark)) for rest, mark in zip(others, marks)))


def some_ways(each=6, tones=TONES, holders=HOLDERS, most=6):
    """Return ways of both modes, of each number of holders and tones: the same ones each time."""
    chance = random.Random(7)
    return [some_way(chance, number, mode, many, chance.randint(1, most))
            for number, mode, many in product(holders, MODES, tones) for _ in range(each)]


def some_rule(chance, holders):
    """Return a rule drawn by chance: some groups hidden, some of the others shown."""
    every = all_groups(holders)
    hides = sorted(chance.sample(every[:-1], chance.randint(0, min(4, len(every) - 1))))
    free = [group for group in every[1:] if not any(part_of(group, hide) for hide in hides)]
    shows = sorted(chance.sample(free, chance.randint(0, min(4, len(free)))))
    return (holders, tuple(shows), tuple(hides))


def some_rules(holders, each=30):
    chance = random.Random(11)
    return [some_rule(chance, holders) for _ in range(each)]


def near_rules(holders):
    """Return rules that are near one another: one group shown or hidden more or less, or another one."""
    every = all_groups(holders)
    found = {(holders, (), ()), (holders, (), ((),)), (holders, tuple(every[1:]), ()), (holders, tuple(every[1:]), ((),)),
             (holders, (), tuple(every))}
    for rule in some_rules(holders, 8):
        _, shows, hides = rule
        found.add(rule)
        found.update((holders, tuple(some for some in shows if some != group), hides) for group in shows)
        found.update((holders, shows, tuple(some for some in hides if some != group)) for group in hides)
        found.update((holders, shows, tuple(sorted({*hides, group}))) for group in every[:9]
                     if not any(part_of(show, group) for show in shows))
    return sorted(found)


def plain_dark(mode, dot, group):
    black = len(set(dot) & set(group))
    return black % 2 == 1 if mode == "odd" else black > 0


def plain_hidden(rule):
    """Return the groups that are to tell nothing: () and the parts of hides."""
    return [group for group in all_groups(rule[0]) if not group or any(part_of(group, hide) for hide in rule[2])]


def pair(number):
    """Return the document's fraction for a Fraction."""
    return (number.numerator, number.denominator)


def plain_plan(way):
    """Return the plan of the way, counted dot by dot."""
    holders, _, tables = way
    return tuple(tuple(pair(Fraction(table.count(group), len(table))) for group in all_groups(holders))
                 for table in tables)


def plain_plan_contrast(rule, mode, plan):
    """Return the plan's contrast as the document tells it, None if it does not keep the rule."""
    every = all_groups(rule[0])
    white, black = [{group: Fraction(*some) for group, some in zip(every, shares)} for shares in plan]
    gained = {group: sum(white[dot] - black[dot] for dot in every if not plain_dark(mode, dot, group))
              for group in every}
    if any(gained[group] <= 0 for group in rule[1]) or any(gained[group] != 0 for group in plain_hidden(rule)):
        return None
    return pair(min([gained[group] for group in rule[1]], default=Fraction(1)))


def plain_bound(rule, mode, value):
    """Return the bound by the prices as the document tells it, "none" if the tuple of fractions is no prices."""
    every = all_groups(rule[0])
    price = {group: Fraction(*some) for group, some in zip(every, value)}
    free = plain_hidden(rule)
    for group in every:
        if group not in free and (price[group] < 0 or group not in rule[1] and price[group] != 0):
            return "none"
    for dot in every:
        if not 0 <= sum(price[group] for group in every if not plain_dark(mode, dot, group)) <= 1:
            return "none"
    total = sum(price[group] for group in rule[1])
    return pair(1 / total) if total else None


def some_plan(chance, holders, tones):
    """Return a plan drawn by chance, with many shares of nothing."""
    found = []
    for _ in range(tones):
        weights = [chance.choice((0, 0, 1, 1, 2, 5)) for _ in all_groups(holders)]
        weights[chance.randrange(len(weights))] += 1
        found.append(tuple(pair(Fraction(weight, sum(weights))) for weight in weights))
    return tuple(found)


def plain_exchanged(way, order):
    """Return the way in which holder number i has the sheet of the holder order[i]."""
    holders, mode, tables = way
    return (holders, mode, tuple(tuple(sorted(tuple(at for at in range(holders) if order[at] in dot) for dot in table))
                                 for table in tables))


def is_plain_group(holders, value):
    """Return whether value, of any kind, is one of all groups."""
    return type(value) is tuple and all(type(item) is int for item in value) and value in all_groups(holders)


def is_plain_tone(tones, value):
    return type(value) is int and value in range(tones)


def outcome(function, *arguments, **named):
    """Return what the call returns, or the error that it raises by its name and fields."""
    try:
        return ("returned", function(*arguments, **named))
    except (ValueError, LookupError) as error:
        return ("raised", type(error).__name__, vars(error))
