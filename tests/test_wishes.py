"""Promises 18, 19, 20 and 33: wishes for several tones; promise 2 (f) and what promise 1 says of fractions."""

import random
import unittest
from fractions import Fraction
from itertools import combinations, permutations, product
from math import gcd
from time import perf_counter

from clearsheets.best import best, shares, way_by
from clearsheets.errors import TooMany
from clearsheets.solved import best_plan
from clearsheets.ways import way_error
from clearsheets.wishes import best_for, meets, ring, ring_holds, several, wishes_error
from tests.plainly import (MODES, TONES, all_groups, all_tables, is_plain_group, is_plain_tone, near_rules, part_of,
                           plain_cut, plain_dark, plain_light, some_rules, some_way, some_ways)
from tests.sessions import run_session
from tests.values import T, any_values, otherwise, plain_values

SESSION = """
>>> from clearsheets.wishes import best_for, meets, ring, ring_holds, several, wishes_error
>>> T = (1, "any", 2, (("lighter", (0,), 0, 1), ("lighter", (0,), 1, 0)))
>>> wishes_error(T), wishes_error((1, "any", 2, (("alike", (0,), 1, 0),))), ring_holds(T, ((0,), (("lighter", 1, 0), ("lighter", 0, 1)))), ring(several(2, "any", (((0, 1), 0),), ((0,), (1,))))
(None, (0, 'want'), True, None)
>>> best_for(T), best_for((2, "any", 2, (("alike", (0,), 0, 1), ("alike", (1,), 0, 1), ("lighter", (0, 1), 0, 1))))[0], len(several(2, "odd", (((0, 1), 0),), ())[3])
(None, (1, 2), 6)
"""
FEW = (1, 2, 3)


def all_wants(holders, tones):
    """Return all wants of the holders and tones, ascending."""
    pairs = list(permutations(range(tones), 2))
    return sorted([("alike", group, one, other) for group in all_groups(holders) for one, other in pairs if one < other]
                  + [("lighter", group, one, other) for group in all_groups(holders) for one, other in pairs])


def some_wishes(chance, holders, mode, tones, most=12):
    every = all_wants(holders, tones)
    wants = chance.sample(every, min(chance.randint(0, most), len(every)))
    return (holders, mode, tones, tuple(sorted(wants)))


def wishes_in_a_circle(chance, holders, mode, tones, broken):
    """Return wishes whose wants go around for a group; if broken, one of the steps is turned around."""
    group = chance.choice(all_groups(holders))
    around = chance.sample(range(tones), chance.randint(2, tones))
    steps = list(zip(around, around[1:] + around[:1]))
    if broken:
        steps[0] = steps[0][::-1]
    wants = []
    for one, other in steps:
        if chance.random() < 0.5:
            # Alike for a group of which this one is a part.
            more = chance.choice([some for some in all_groups(holders) if part_of(group, some)])
            wants.append(("alike", more, min(one, other), max(one, other)))
        else:
            wants.append(("lighter", group, one, other))
    extra = chance.sample(all_wants(holders, tones), chance.randint(0, 2))
    return (holders, mode, tones, tuple(sorted({*wants, *extra})))


def ranked_wishes(chance, holders, mode, tones):
    """Return wishes by which each of some groups sees the tones in an order of its own, some of them alike."""
    often, hidden = chance.choice((0.2, 0.5, 1)), chance.choice((0, 0.1))
    wants = set()
    for group in all_groups(holders)[1:]:
        for one, other in combinations(chance.sample(range(tones), tones), 2):
            if chance.random() < hidden:
                wants.add(("alike", group, min(one, other), max(one, other)))
            elif chance.random() < often:
                wants.add(("lighter", group, one, other))
    return (holders, mode, tones, tuple(sorted(wants)))


def drawn_wishes(each=30):
    """Return wishes of all sizes, some with rings and some without: the same ones each time."""
    chance = random.Random(41)
    found = []
    for holders, mode, tones in product(FEW, MODES, TONES):
        found.append((holders, mode, tones, ()))
        for _ in range(each):
            found.append(some_wishes(chance, holders, mode, tones, chance.choice((2, 4, 12))))
            found.append(wishes_in_a_circle(chance, holders, mode, tones, chance.random() < 0.5))
            found.append(ranked_wishes(chance, holders, mode, tones))
    return found


WISHES = drawn_wishes()


def is_plain_want(holders, tones, value):
    if type(value) is not tuple or len(value) != 4 or type(value[0]) is not str:
        return False
    kind, group, one, other = value
    if not is_plain_group(holders, group) or not is_plain_tone(tones, one) or not is_plain_tone(tones, other):
        return False
    return kind == "alike" and one < other or kind == "lighter" and one != other


def plain_wishes_error(value):
    """Return what is wrong first with the value, as the document tells it."""
    if type(value) is not tuple or len(value) != 4:
        return (None, "wishes")
    holders, mode, tones, wants = value
    if type(holders) is not int or holders not in FEW:
        return (None, "holders")
    if type(mode) is not str or mode not in MODES:
        return (None, "mode")
    if type(tones) is not int or tones not in TONES:
        return (None, "tones")
    if type(wants) is not tuple:
        return (None, "wants")
    for number, want in enumerate(wants):
        if not is_plain_want(holders, tones, want):
            return (number, "want")
        if number and not wants[number - 1] < want:
            return (number, "order")
    return None


def plain_meets(way, wishes):
    _, mode, tables = way
    for kind, group, one, other in wishes[3]:
        if kind == "alike" and plain_cut(tables[one], group) != plain_cut(tables[other], group):
            return False
        if kind == "lighter" and plain_light(mode, tables[one], group) <= plain_light(mode, tables[other], group):
            return False
    return True


def standing_steps(wishes, group):
    """Return all steps that stand for the group."""
    _, _, tones, wants = wishes
    found = set()
    for kind, some, one, other in wants:
        if kind == "lighter" and some == group:
            found.add((kind, one, other))
        if kind == "alike" and part_of(group, some):
            found.update([(kind, one, other), (kind, other, one)])
    if group == ():
        found.update(("alike", one, other) for one, other in permutations(range(tones), 2))
    return found


def is_plain_ring(wishes, value):
    """Return whether value, of any kind, is a ring of the wishes, by the document's words."""
    if type(value) is not tuple or len(value) != 2:
        return False
    group, steps = value
    if not is_plain_group(wishes[0], group) or type(steps) is not tuple or len(steps) < 2:
        return False
    for step in steps:
        if type(step) is not tuple or len(step) != 3 or type(step[0]) is not str:
            return False
        if not is_plain_tone(wishes[2], step[1]) or not is_plain_tone(wishes[2], step[2]):
            return False
    if any(steps[at][2] != steps[(at + 1) % len(steps)][1] for at in range(len(steps))):
        return False
    return set(steps) <= standing_steps(wishes, group) and "lighter" in [step[0] for step in steps]


def has_ring(wishes):
    """Return whether some want lighter closes a circle of steps for its group."""
    for group in all_groups(wishes[0]):
        steps = standing_steps(wishes, group)
        reach = {(one, other) for _, one, other in steps}
        for middle, one, other in product(range(wishes[2]), repeat=3):
            if (one, middle) in reach and (middle, other) in reach:
                reach.add((one, other))
        if any(kind == "lighter" and (other, one) in reach for kind, one, other in steps):
            return True
    return False


def plan_light(mode, holders, some, group):
    """Return the light by the shares of a tone."""
    return sum(Fraction(*share) for dot, share in zip(all_groups(holders), some) if not plain_dark(mode, dot, group))


def least_gain(wishes, plan):
    """Return the least number by which the plan meets a want lighter, None if it does not meet all wants."""
    holders, mode, _, wants = wishes
    gained = [Fraction(1)]
    for kind, group, one, other in wants:
        if kind == "lighter":
            gained.append(plan_light(mode, holders, plan[one], group) - plan_light(mode, holders, plan[other], group))
        for part in all_groups(holders):
            if kind == "alike" and part_of(part, group):
                if plan_light(mode, holders, plan[one], part) != plan_light(mode, holders, plan[other], part):
                    return None
    return min(gained) if min(gained) > 0 else None


def bound_by_prices(wishes):
    """Return a bound of the contrasts of ways that meet the wishes: told by prices that are checked here."""
    holders, mode, tones, wants = wishes
    every = all_groups(holders)
    alike = sorted({(part, one, other) for kind, group, one, other in wants if kind == "alike"
                    for part in every if part_of(part, group)} | {((), 0, tone) for tone in range(1, tones)})
    lighter = [want[1:] for want in wants if want[0] == "lighter"]
    prices = [Fraction(*price) for price in best_plan(holders, mode, tones, alike, lighter)[2]]
    assert all(price >= 0 for price in prices[len(alike):])
    # However the dots of a tone are shared out, prices times lights add up to at most their greatest sum for a dot.
    most = 0
    for tone in range(tones):
        most += max(sum(price * ((tone == one) - (tone == other)) for price, (group, one, other)
                        in zip(prices, alike + lighter) if not plain_dark(mode, dot, group)) for dot in every)
    return most / sum(prices[len(alike):])


class SessionTest(unittest.TestCase):

    def test_examples(self):
        run_session(self, SESSION)


class WishesErrorTest(unittest.TestCase):

    def check(self, value, wanted):
        with self.subTest(value=repr(value)[:70], wanted=wanted):
            self.assertEqual(repr(wishes_error(value)), repr(wanted))

    def test_wishes_drawn_by_chance(self):
        for wishes in WISHES:
            self.check(wishes, None)

    def test_all_wants_at_once(self):
        for holders, mode, tones in product(FEW, MODES, TONES):
            self.check((holders, mode, tones, tuple(all_wants(holders, tones))), None)

    def test_one_thing_otherwise(self):
        chance = random.Random(42)
        words = set()
        for wishes in [T] + [some_wishes(chance, holders, mode, tones, 6)
                             for holders, mode, tones in product(FEW, MODES, TONES)]:
            for value in otherwise(wishes):
                wanted = plain_wishes_error(value)
                words.add(wanted and wanted[1])
                if repr(wishes_error(value)) != repr(wanted):
                    self.fail((value, wanted, wishes_error(value)))
        self.assertEqual(words, {None, "wishes", "holders", "mode", "tones", "wants", "want", "order"})

    def test_any_value(self):
        for value in any_values():
            self.check(value, plain_wishes_error(value))
            self.check((2, "any", 2, value), plain_wishes_error((2, "any", 2, value)))
            self.check((2, "any", 2, (value,)), (0, "want"))
            for want in [(value, (0,), 0, 1), ("alike", value, 0, 1), ("lighter", (0,), value, 1),
                         ("alike", (0,), 0, value)]:
                self.check((2, "any", 2, (want,)), plain_wishes_error((2, "any", 2, (want,))))

    def test_wrong_holders(self):
        for holders in [0, 4, 5, 6, -1, True, None, "1", (1,), [1], 10 ** 59]:
            self.check((holders, "any", 2, ()), (None, "holders"))
            self.check((holders, None, None, None), (None, "holders"))

    def test_wrong_modes_and_tones(self):
        for value in ["", "even", None, True, 0, 1, 5, -1, "2", (2,), [2], {2: 2}]:
            self.check((1, value, 2, ()), (None, "mode"))
            self.check((1, value, value, value), (None, "mode"))
            self.check((1, "any", value, ()), (None, "tones"))
            self.check((1, "odd", value, None), (None, "tones"))

    def test_wants_that_are_no_tuple(self):
        for value in [None, True, 0, "", [], [("alike", (0,), 0, 1)], {}]:
            self.check((1, "any", 2, value), (None, "wants"))

    def test_no_wants(self):
        for want in [("alike", (0,), 1, 0), ("alike", (0,), 0, 0), ("lighter", (0,), 1, 1), ("lighter", (0,), 0, 2),
                     ("alike", (0,), -1, 0), ("lighter", (1,), 0, 1), ("darker", (0,), 0, 1), ("alike", (0,), 0),
                     ("alike", (0,), 0, 1, 1), ["alike", (0,), 0, 1], ("alike", [0], 0, 1), ("alike", (0,), False, 1),
                     ("alike", (0,), 0, True), ("lighter", (0,), True, 0), ("lighter", (False,), 0, 1), (), None]:
            self.check((1, "any", 2, (want,)), (0, "want"))
            self.check((1, "any", 2, (("alike", (), 0, 1), want)), (1, "want"))
            self.check((1, "any", 2, (want, want)), (0, "want"))

    def test_order(self):
        one, two, three = ("alike", (0,), 0, 1), ("lighter", (), 0, 1), ("lighter", (0,), 0, 1)
        self.check((1, "any", 2, (one, two, three)), None)
        for wants in permutations((one, two, three)):
            if wants != (one, two, three):
                self.check((1, "any", 2, wants), plain_wishes_error((1, "any", 2, wants)))
        self.check((1, "any", 2, (one, one)), (1, "order"))
        self.check((1, "any", 2, (one, two, two)), (2, "order"))
        self.check((1, "any", 2, (two, one, None)), (1, "order"))
        self.check((1, "any", 2, (two, None, one)), (1, "want"))

    def test_by_name(self):
        self.assertIsNone(wishes_error(value=T))


class MeetsTest(unittest.TestCase):

    def test_ways_and_wishes_drawn_by_chance(self):
        chance = random.Random(43)
        found = []
        for way in some_ways(each=12, holders=FEW):
            holders, mode, tables = way
            for most in (1, 2, 4):
                wishes = some_wishes(chance, holders, mode, len(tables), most)
                found.append(plain_meets(way, wishes))
                self.assertIs(meets(way, wishes), found[-1], (way, wishes))
        self.assertGreater(found.count(True), 50)
        self.assertGreater(found.count(False), 50)

    def test_all_wants_that_a_way_meets_and_one_more(self):
        for way in some_ways(each=3, holders=FEW):
            holders, mode, tables = way
            every = all_wants(holders, len(tables))
            met = [want for want in every if plain_meets(way, (holders, mode, len(tables), (want,)))]
            self.assertIs(meets(way, (holders, mode, len(tables), tuple(met))), True)
            for want in every:
                wishes = (holders, mode, len(tables), tuple(sorted({*met, want})))
                self.assertIs(meets(way, wishes), want in met)

    def test_no_wants(self):
        for way in some_ways(each=1, holders=FEW):
            self.assertIs(meets(way, (way[0], way[1], len(way[2]), ())), True)

    def test_alike_means_not_told_apart(self):
        # In mode "odd" both holders together see the same light, but they tell the tones apart.
        way = (2, "odd", (((), (0, 1)), ((), ())))
        self.assertIs(meets(way, (2, "odd", 2, (("alike", (0, 1), 0, 1),))), False)
        self.assertIs(meets(way, (2, "odd", 2, (("alike", (), 0, 1),))), True)

    def test_lighter_means_more(self):
        way = (1, "any", (((),), ((0,),), ((),)))
        self.assertIs(meets(way, (1, "any", 3, (("lighter", (0,), 0, 1), ("lighter", (0,), 2, 1)))), True)
        self.assertIs(meets(way, (1, "any", 3, (("lighter", (0,), 1, 0),))), False)
        self.assertIs(meets(way, (1, "any", 3, (("lighter", (0,), 0, 2),))), False)

    def test_by_names(self):
        self.assertIs(meets(way=(1, "any", (((),), ((0,),))), wishes=(1, "any", 2, (("lighter", (0,), 0, 1),))), True)


class RingTest(unittest.TestCase):

    def check(self, wishes):
        found = ring(wishes)
        if not has_ring(wishes):
            self.assertIsNone(found, wishes)
            return None
        self.assertTrue(is_plain_ring(wishes, found), (wishes, found))
        self.assertIs(ring_holds(wishes, found), True)
        self.assertLessEqual(len(found[1]), 20)
        return found

    def test_wishes_drawn_by_chance(self):
        found = [self.check(wishes) for wishes in WISHES]
        self.assertGreater(found.count(None), 200)
        self.assertGreater(len(found) - found.count(None), 200)
        self.assertGreater(len([value for value in found if value and len(value[1]) > 2]), 20)

    def test_great_circles(self):
        for order in permutations(range(4)):
            steps = list(zip(order, order[1:] + order[:1]))
            for group in all_groups(3)[1:]:
                wants = tuple(sorted(("lighter", group, one, other) for one, other in steps))
                self.assertEqual(len(self.check((3, "any", 4, wants))[1]), 4)
                for want in wants:
                    self.assertIsNone(self.check((3, "any", 4, tuple(each for each in wants if each != want))))

    def test_one_lighter_and_the_rest_alike(self):
        for some in all_groups(3):
            for group in all_groups(3):
                wants = (("alike", some, 0, 1), ("alike", some, 0, 3), ("alike", some, 2, 3), ("lighter", group, 1, 2))
                found = self.check((3, "odd", 4, wants))
                self.assertEqual(found is not None, part_of(group, some))

    def test_no_sheets(self):
        # All tones have the same light for ().
        for one, other in permutations(range(3), 2):
            self.assertIsNotNone(self.check((1, "any", 3, (("lighter", (), one, other),))))
        self.assertIsNone(self.check((1, "any", 3, (("alike", (), 0, 1), ("lighter", (0,), 0, 1)))))

    def test_circles_of_several_groups_are_none(self):
        wishes = (2, "any", 3, (("lighter", (0,), 0, 1), ("lighter", (0,), 1, 2), ("lighter", (1,), 2, 0)))
        self.assertIsNone(self.check(wishes))
        wishes = (2, "any", 2, (("lighter", (0,), 0, 1), ("lighter", (0, 1), 1, 0), ("lighter", (1,), 0, 1)))
        self.assertIsNone(self.check(wishes))

    def test_all_wants_at_once(self):
        for holders, mode, tones in product(FEW, MODES, TONES):
            every = all_wants(holders, tones)
            self.assertIsNotNone(self.check((holders, mode, tones, tuple(every))))
            self.assertIsNone(self.check((holders, mode, tones, tuple(want for want in every if want[0] == "alike"))))

    def test_by_name(self):
        self.assertIsNotNone(ring(wishes=T))


class RingHoldsTest(unittest.TestCase):

    def check(self, wishes, value):
        wanted = is_plain_ring(wishes, value)
        if ring_holds(wishes, value) is not wanted:
            self.fail((wishes, value, wanted))
        return wanted

    def rings(self):
        """Return pairs of wishes and a ring of them."""
        return [(wishes, ring(wishes)) for wishes in WISHES if has_ring(wishes)]

    def test_rings_turned_on_and_gone_twice(self):
        for wishes, (group, steps) in self.rings():
            for at in range(len(steps)):
                turned = steps[at:] + steps[:at]
                self.assertTrue(self.check(wishes, (group, turned)))
                self.assertTrue(self.check(wishes, (group, turned * 2)))
                self.assertTrue(self.check(wishes, (group, turned * 30)))
                self.assertEqual(self.check(wishes, (group, turned[:-1])), False)

    def test_one_thing_otherwise(self):
        for wishes, value in self.rings()[::9]:
            for other in otherwise(value):
                self.check(wishes, other)

    def test_a_step_otherwise(self):
        for wishes, (group, steps) in self.rings()[::4]:
            every = list(product(("alike", "lighter"), range(wishes[2]), range(wishes[2])))
            for at in range(len(steps)):
                for step in every:
                    self.check(wishes, (group, steps[:at] + (step,) + steps[at + 1:]))
                    self.check(wishes, (group, steps[:at] + (step,) + steps[at:]))

    def test_another_group(self):
        for wishes, (group, steps) in self.rings():
            for other in all_groups(wishes[0]) + [(wishes[0],), (0, 0), [0], None]:
                self.check(wishes, (other, steps))

    def test_all_short_walks(self):
        chance = random.Random(44)
        found = []
        for wishes in chance.sample([each for each in WISHES if each[2] < 4], 40):
            every = list(product(("alike", "lighter"), range(wishes[2]), range(wishes[2])))
            for group in all_groups(wishes[0]):
                for many in (1, 2):
                    for steps in product(every, repeat=many):
                        found.append(self.check(wishes, (group, steps)))
                for _ in range(60):
                    # Walks that end where they begin.
                    tones = [chance.randrange(wishes[2]) for _ in range(chance.randint(2, 6))]
                    walk = zip(tones, tones[1:] + tones[:1])
                    steps = tuple((chance.choice(("alike", "lighter")), one, other) for one, other in walk)
                    found.append(self.check(wishes, (group, steps)))
        self.assertGreater(found.count(True), 50)

    def test_alike_steps_alone(self):
        wishes = (1, "any", 3, (("alike", (0,), 0, 1), ("alike", (0,), 1, 2), ("lighter", (0,), 0, 2)))
        self.assertIs(ring_holds(wishes, ((0,), (("alike", 0, 1), ("alike", 1, 0)))), False)
        self.assertIs(ring_holds(wishes, ((0,), (("alike", 0, 1), ("alike", 1, 0), ("lighter", 0, 2), ("alike", 2, 1),
                                                 ("alike", 1, 0)))), True)
        self.assertIs(ring_holds(wishes, ((0,), (("alike", 0, 2), ("lighter", 2, 0)))), False)
        self.assertIs(ring_holds(wishes, ((), (("alike", 0, 2), ("alike", 2, 0)))), False)
        self.assertIs(ring_holds(wishes, ((), (("alike", 0, 0), ("alike", 0, 0)))), False)

    def test_alike_for_no_sheets(self):
        wishes = (1, "any", 3, (("lighter", (), 0, 2),))
        self.assertIs(ring_holds(wishes, ((), (("lighter", 0, 2), ("alike", 2, 0)))), True)
        self.assertIs(ring_holds(wishes, ((), (("lighter", 0, 2), ("alike", 2, 1), ("alike", 1, 0)))), True)
        self.assertIs(ring_holds(wishes, ((), (("lighter", 0, 2), ("alike", 2, 2), ("alike", 2, 0)))), False)
        self.assertIs(ring_holds(wishes, ((0,), (("lighter", 0, 2), ("alike", 2, 0)))), False)

    def test_alike_for_parts_alone(self):
        wishes = (2, "odd", 2, (("alike", (0,), 0, 1), ("lighter", (0, 1), 0, 1), ("lighter", (1,), 0, 1)))
        for group in all_groups(2):
            self.assertIs(ring_holds(wishes, (group, (("lighter", 0, 1), ("alike", 1, 0)))), False)
        wishes = (2, "odd", 2, (("alike", (0, 1), 0, 1), ("lighter", (1,), 0, 1)))
        self.assertIs(ring_holds(wishes, ((1,), (("lighter", 0, 1), ("alike", 1, 0)))), True)
        self.assertIs(ring_holds(wishes, ((0, 1), (("lighter", 0, 1), ("alike", 1, 0)))), False)

    def test_a_lone_step(self):
        wishes = (1, "any", 2, (("lighter", (0,), 0, 1),))
        self.assertIs(ring_holds(wishes, ((0,), (("lighter", 0, 1),))), False)
        self.assertIs(ring_holds(wishes, ((0,), ())), False)

    def test_any_value(self):
        for value in any_values():
            for wishes in (T, WISHES[-1]):
                self.assertIs(ring_holds(wishes, value), is_plain_ring(wishes, value))
                for other in [(value, (("lighter", 1, 0), ("lighter", 0, 1))), ((0,), value), ((0,), (value, value)),
                              ((0,), (("lighter", 1, 0), (value, 0, 1))),
                              ((0,), (("lighter", 1, 0), ("lighter", value, 1)))]:
                    self.assertIs(ring_holds(wishes, other), is_plain_ring(wishes, other))

    def test_lists_and_bools(self):
        one, other = ("lighter", 1, 0), ("lighter", 0, 1)
        self.assertIs(ring_holds(T, ((0,), (one, other))), True)
        for value in [[(0,), (one, other)], ([0], (one, other)), ((0,), [one, other]), ((0,), (list(one), other)),
                      ((False,), (one, other)), ((0,), (("lighter", True, 0), other)),
                      ((0,), (one, ("lighter", False, 1)))]:
            self.assertIs(ring_holds(T, value), False)

    def test_by_names(self):
        self.assertIs(ring_holds(wishes=T, value=None), False)
        self.assertIs(ring_holds(value=((0,), (("lighter", 1, 0), ("lighter", 0, 1))), wishes=T), True)


class BestForTest(unittest.TestCase):

    def check(self, wishes):
        """Check that a ring goes against the wishes, or that no way has a greater contrast than the plan told."""
        found = best_for(wishes)
        if has_ring(wishes):
            self.assertIsNone(found, wishes)
            return None
        told, plan = found
        self.check_plan(wishes, plan)
        self.assertEqual(least_gain(wishes, plan), Fraction(*told), wishes)
        lighter = [want for want in wishes[3] if want[0] == "lighter"]
        if lighter:
            self.assertEqual(bound_by_prices(wishes), Fraction(*told), wishes)
        else:
            self.assertEqual(repr(told), "(1, 1)")
        for top, bottom in [told] + [share for some in plan for share in some]:
            self.assertEqual((type(top), type(bottom), gcd(top, bottom)), (int, int, 1))
            self.assertGreaterEqual(bottom, 1)
            self.assertLess(max(abs(top), bottom), 10 ** 40)
        return told

    def check_plan(self, wishes, plan):
        self.assertIs(type(plan), tuple)
        self.assertEqual(len(plan), wishes[2])
        for some in plan:
            self.assertIs(type(some), tuple)
            self.assertEqual(len(some), 2 ** wishes[0])
            self.assertEqual(sum(Fraction(*share) for share in some), 1)
            self.assertGreaterEqual(min(top for top, _ in some), 0)

    def test_wishes_drawn_by_chance(self):
        found = [self.check(wishes) for wishes in WISHES]
        self.assertGreater(found.count(None), 200)
        self.assertGreater(len(set(found)), 10)

    def test_a_ring_or_a_way(self):
        for wishes in WISHES:
            self.assertEqual(best_for(wishes) is None, ring(wishes) is not None)

    def test_the_way_of_the_plan(self):
        made = 0
        for wishes in WISHES:
            if has_ring(wishes):
                continue
            told, plan = best_for(wishes)
            try:
                way = way_by(wishes[0], wishes[1], plan)
            except TooMany:
                continue
            made += 1
            self.assertIsNone(way_error(way))
            self.assertTrue(plain_meets(way, wishes))
            self.assertIs(meets(way, wishes), True)
            self.assertEqual(least_gain(wishes, shares(way)), Fraction(*told))
        self.assertGreater(made, 200)

    def test_no_drawn_way_is_better(self):
        chance = random.Random(45)
        for holders, mode, tones in product(FEW, MODES, TONES):
            for _ in range(8):
                way = some_way(chance, holders, mode, tones, chance.randint(1, 5))
                met = [want for want in all_wants(holders, tones) if plain_meets(way, (holders, mode, tones, (want,)))]
                wants = chance.sample(met, min(len(met), chance.randint(1, 8)))
                wishes = (holders, mode, tones, tuple(sorted(wants)))
                self.assertLessEqual(least_gain(wishes, shares(way)), Fraction(*self.check(wishes)))

    def test_no_way_of_few_dots_is_better(self):
        wishes = [(1, "any", 3, (("lighter", (0,), 0, 1), ("lighter", (0,), 1, 2))),
                  (1, "odd", 3, (("alike", (0,), 0, 1), ("lighter", (0,), 1, 2)))]
        for each in wishes:
            told = Fraction(*self.check(each))
            met = []
            for many in (1, 2, 3, 4):
                for tables in product(all_tables(1, many), repeat=3):
                    if plain_meets((1, each[1], tables), each):
                        met.append(least_gain(each, shares((1, each[1], tables))))
            self.assertEqual(max(met), told)

    def test_tones_in_a_row(self):
        for tones in TONES:
            wants = tuple(("lighter", (0,), one, one + 1) for one in range(tones - 1))
            for mode in MODES:
                self.assertEqual(self.check((1, mode, tones, wants)), (1, tones - 1))

    def test_rules_told_as_wishes(self):
        for holders, mode in product(FEW, MODES):
            for rule in near_rules(holders)[::3] + some_rules(holders, 10):
                if rule[1]:
                    wants = sorted([("alike", hide, 0, 1) for hide in rule[2]]
                                   + [("lighter", show, 0, 1) for show in rule[1]])
                    self.assertEqual(self.check((holders, mode, 2, tuple(wants))), best(rule, mode)[0])

    def test_no_wants_lighter(self):
        for holders, mode, tones in product(FEW, MODES, TONES):
            every = [want for want in all_wants(holders, tones) if want[0] == "alike"]
            self.assertEqual(self.check((holders, mode, tones, ())), (1, 1))
            self.assertEqual(self.check((holders, mode, tones, tuple(every))), (1, 1))
            self.assertEqual(self.check((holders, mode, tones, tuple(every[1::2]))), (1, 1))

    def test_two_pictures(self):
        cases = [(2, (((0, 1), 0),), ((0,), (1,))), (2, (((0,), 0), ((1,), 1)), ()), (2, (((0,), 0), ((0, 1), 1)), ()),
                 (2, (((0, 1), 0), ((0, 1), 1)), ()), (3, (((0, 1), 0), ((1, 2), 1)), ((0,), (1,), (2,))),
                 (3, (((0, 1), 0), ((0, 2), 1)), ((0,), (1, 2))), (3, (((0, 1), 0), ((0, 1, 2), 1)), ((0,),)),
                 (3, (((0, 1), 0), ((0, 2), 0), ((1, 2), 1)), ((0,), (1,), (2,)))]
        for mode in MODES:
            told = [self.check(several(holders, mode, seers, hides)) for holders, seers, hides in cases]
            self.assertEqual(told[0], {"any": (1, 2), "odd": (1, 1)}[mode])
            self.assertEqual(told[1], (1, 1))
            # Who has only a part of the sheets of another cannot see another picture than this one does.
            self.assertIsNone(told[3])

    def test_the_longest_call(self):
        chance = random.Random(47)
        longest = 0
        for mode in MODES:
            for _ in range(80):
                wishes = ranked_wishes(chance, 3, mode, 4)
                start = perf_counter()
                best_for(wishes)
                longest = max(longest, perf_counter() - start)
        self.assertLess(longest, 5)

    def test_by_name(self):
        self.assertIsNone(best_for(wishes=T))


class SeveralTest(unittest.TestCase):

    def check(self, holders, mode, seers, hides):
        wants = set()
        # The tones by what they are in the first picture, and in the second one.
        shade = {tone: divmod(tone, 2) for tone in range(4)}
        for one, other in product(range(4), repeat=2):
            for group, picture in seers:
                if (shade[one][picture], shade[other][picture]) == (0, 1):
                    wants.add(("lighter", group, one, other))
                if shade[one][picture] == shade[other][picture] and one < other:
                    wants.add(("alike", group, one, other))
            wants.update(("alike", group, one, other) for group in hides if one < other)
        found = several(holders, mode, seers, hides)
        self.assertEqual(repr(found), repr((holders, mode, 4, tuple(sorted(wants)))))
        self.assertIsNone(wishes_error(found))
        return found

    def test_each_seer_and_each_hide(self):
        for holders, mode in product(FEW, MODES):
            for group in all_groups(holders):
                self.assertEqual(len(self.check(holders, mode, ((group, 0),), ())[3]), 6)
                self.assertEqual(len(self.check(holders, mode, ((group, 1),), ())[3]), 6)
                self.assertEqual(len(self.check(holders, mode, (), (group,))[3]), 6)

    def test_drawn_by_chance(self):
        chance = random.Random(48)
        for holders, mode in product(FEW, MODES):
            every = all_groups(holders)
            for _ in range(60):
                seers = tuple((chance.choice(every), chance.randrange(2)) for _ in range(chance.randint(0, 5)))
                hides = tuple(chance.choice(every) for _ in range(chance.randint(0, 4)))
                self.check(holders, mode, seers, hides)

    def test_orders_and_equal_items_do_not_matter(self):
        seers, hides = (((0, 1), 0), ((1, 2), 1), ((0,), 1)), ((2,), (1,), ())
        wanted = self.check(3, "any", seers, hides)
        for some, others in product(permutations(seers), permutations(hides)):
            self.assertEqual(several(3, "any", some, others), wanted)
            self.assertEqual(several(3, "any", some * 2 + some[:1], others + others), wanted)

    def test_none(self):
        self.assertEqual(several(1, "odd", (), ()), (1, "odd", 4, ()))

    def test_the_tones_of_two_pictures(self):
        wants = several(1, "any", (((0,), 0),), ())[3]
        self.assertEqual(wants, (("alike", (0,), 0, 1), ("alike", (0,), 2, 3), ("lighter", (0,), 0, 2),
                                 ("lighter", (0,), 0, 3), ("lighter", (0,), 1, 2), ("lighter", (0,), 1, 3)))
        wants = several(1, "any", (((0,), 1),), ())[3]
        self.assertEqual(wants, (("alike", (0,), 0, 2), ("alike", (0,), 1, 3), ("lighter", (0,), 0, 1),
                                 ("lighter", (0,), 0, 3), ("lighter", (0,), 2, 1), ("lighter", (0,), 2, 3)))

    def test_by_names(self):
        self.assertEqual(several(holders=1, mode="any", seers=(), hides=((0,),)), several(1, "any", (), ((0,),)))


class UnchangedTest(unittest.TestCase):

    def test_equal_calls_and_arguments(self):
        chance = random.Random(49)
        for wishes in WISHES[::13]:
            way = some_way(chance, wishes[0], wishes[1], wishes[2], 3)
            words = repr((wishes, way))
            for function, arguments in [(wishes_error, (wishes,)), (meets, (way, wishes)), (ring, (wishes,)),
                                        (ring_holds, (wishes, ((0,), ()))), (best_for, (wishes,))]:
                self.assertEqual(repr(function(*arguments)), repr(function(*arguments)))
            self.assertEqual(repr((wishes, way)), words)
        for value in plain_values():
            words = repr(value)
            wishes_error((1, "any", 2, value))
            wishes_error((1, "any", 2, (value, value)))
            ring_holds(T, (value, value))
            ring_holds(T, ((0,), (value, value)))
            self.assertEqual(repr(value), words)


if __name__ == "__main__":
    unittest.main()
