"""Promise 2: what holds for everything, over drawn inputs."""

import random
import unittest
from fractions import Fraction
from itertools import product

from clearsheets.best import best, bound_of, plan_contrast, prices, way_by
from clearsheets.desks import Desk
from clearsheets.drafts import way_of
from clearsheets.errors import TooMany
from clearsheets.lights import gains, light, lights, told
from clearsheets.pictures import draw, drawings
from clearsheets.rules import keeps
from clearsheets.ways import parts, way_error
from clearsheets.wishes import best_for, meets, ring
from tests.plainly import (HOLDERS, MODES, TONES, all_groups, outcome, plain_keeps, plain_lights, some_rule, some_table,
                           some_way, some_ways)


class FactsTest(unittest.TestCase):

    def test_a_tells_apart_by_the_light_of_a_part(self):
        both = set()
        for way in some_ways(each=8):
            for group in all_groups(way[0]):
                lots = told(way, group)
                for one, other in product(range(len(way[2])), repeat=2):
                    apart = not any(one in lot and other in lot for lot in lots)
                    unlike = any(light(way, one, part) != light(way, other, part) for part in parts(group))
                    self.assertIs(apart, unlike)
                    both.add(apart)
        self.assertEqual(both, {True, False})

    def test_b_gains_are_those_of_a_way(self):
        chance = random.Random(1)
        for holders in HOLDERS:
            for _ in range(60):
                wanted = (0,) + tuple(chance.randint(-3, 3) for _ in range(2 ** holders - 1))
                way = way_of(holders, "any", wanted)
                self.assertIsNone(way_error(way))
                self.assertEqual((way[:2], gains(way)), ((holders, "any"), wanted))

    def test_b_no_way_with_these_gains_has_fewer_dots(self):
        chance = random.Random(2)
        for holders, mode in product(HOLDERS, MODES):
            for _ in range(40):
                way = some_way(chance, holders, mode, 2, chance.randint(1, 6))
                found = way_of(holders, mode, gains(way))
                self.assertEqual(gains(found), gains(way))
                self.assertLessEqual(len(found[2][0]), len(way[2][0]))

    def test_c_tables_with_the_same_lights_are_the_same(self):
        chance = random.Random(3)
        for holders, mode in product(HOLDERS, MODES):
            known = {}
            for _ in range(400):
                table = some_table(chance, holders, chance.randint(1, 3))
                lit = lights((holders, mode, (table, table)), 1)
                self.assertEqual(lit, plain_lights(holders, mode, table))
                self.assertEqual(known.setdefault(lit, table), table)

    def test_d_each_rule_is_kept_with_the_contrast_that_prices_prove(self):
        chance = random.Random(4)
        made = 0
        for holders, mode in product((1, 2, 3, 4), MODES):
            for _ in range(15):
                rule = some_rule(chance, holders)
                if not rule[1]:
                    continue
                most, plan = best(rule, mode)
                self.assertEqual(plan_contrast(rule, mode, plan), most)
                self.assertEqual(bound_of(rule, mode, prices(rule, mode)), most)
                try:
                    way = way_by(holders, mode, plan)
                except TooMany:
                    continue
                made += 1
                self.assertTrue(keeps(way, rule) and plain_keeps(way, rule))
        self.assertGreater(made, 50)

    def test_e_who_tells_no_tones_apart_sees_all_pictures_equally_often(self):
        chance = random.Random(5)
        checked = 0
        for way in some_ways(each=6, most=8):
            tones = len(way[2])
            rows, columns = chance.randint(1, 4), chance.randint(1, 4)
            pictures = [tuple(tuple(chance.randrange(tones) for _ in range(columns)) for _ in range(rows))
                        for _ in range(6)]
            many = len(way[2][0])
            orders = tuple(tuple(chance.sample(range(many), many)) for _ in range(rows * columns))
            sheets = draw(way, pictures[0], orders)
            for group in all_groups(way[0]):
                if len(told(way, group)) == 1:
                    seen = tuple(sheets[holder] for holder in group)
                    found = {drawings(way, picture, group, seen) for picture in pictures}
                    self.assertEqual(len(found), 1)
                    self.assertGreater(min(found), 0)
                    checked += group != ()
        self.assertGreater(checked, 20)

    def test_f_wishes_can_be_met_unless_a_ring_goes_against_them(self):
        chance = random.Random(6)
        both = []
        for holders, mode, tones in product((1, 2, 3), MODES, TONES):
            for _ in range(40):
                wants = set()
                for _ in range(chance.randint(0, 6)):
                    one, other = chance.sample(range(tones), 2)
                    group = chance.choice(all_groups(holders))
                    wants.add(chance.choice([("alike", group, min(one, other), max(one, other)),
                                             ("lighter", group, one, other)]))
                wishes = (holders, mode, tones, tuple(sorted(wants)))
                found = best_for(wishes)
                self.assertEqual(found is None, ring(wishes) is not None)
                both.append(found is None)
                if found is not None:
                    self.assertGreater(Fraction(*found[0]), 0)
                    self.assertTrue(meets(way_by(holders, mode, found[1]), wishes))
        self.assertGreater(both.count(True), 100)
        self.assertGreater(both.count(False), 100)

    def test_g_edits_that_are_undone_leave_no_trace(self):
        chance = random.Random(7)
        undone = 0
        for holders, mode in product((1, 2, 3), MODES):
            for _ in range(12):
                desk = Desk(some_rule(chance, holders), mode)
                stood = [(desk.rule, desk.mode)]
                for _ in range(40):
                    if chance.random() < 0.4:
                        if outcome(desk.undo)[0] == "returned":
                            stood.pop()
                            undone += 1
                    elif self.edit(chance, desk)[0] == "returned":
                        stood.append((desk.rule, desk.mode))
                    self.assertEqual((desk.rule, desk.mode, desk.version), stood[-1] + (len(stood) - 1,))
        self.assertGreater(undone, 200)

    def edit(self, chance, desk):
        """Return what comes of an edit drawn by chance."""
        name = chance.choice(("show", "unshow", "hide", "unhide", "turn"))
        value = chance.choice(MODES) if name == "turn" else chance.choice(all_groups(desk.rule[0]))
        return outcome(getattr(desk, name), value)


if __name__ == "__main__":
    unittest.main()
