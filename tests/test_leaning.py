"""Points 51 and 52: slate/leaning.py."""

import copy
import itertools
import random
import unittest

from making import place_dict, places
from slate.leaning import sorted_out
from slate.places import between, place_of

WHOLE = between((0, 0), (98, 25))


def reached(leans, key):
    """All that one comes to, going on from a key in one step or more."""
    found = []
    waiting = list(leans[key])
    while waiting:
        place = waiting.pop()
        if place in leans and place not in found:
            found.append(place)
            waiting.extend(leans[place])
    return found


def told_plainly(leans):
    """The pair of the order and the nexts, as the points say it word by word."""
    beyond = {key: reached(leans, key) for key in leans}
    round_again = [key for key in leans if key in beyond[key]]
    stuck = [key for key in leans if key in round_again or set(beyond[key]) & set(round_again)]
    order = []
    while len(order) + len(stuck) < len(leans):
        order.append(min(key for key in leans if key not in stuck and key not in order
                         and all(place in order for place in leans[key] if place in leans)))
    return order, {key: min(place for place in leans[key] if place in stuck) for key in sorted(stuck)}


class LeaningCase(unittest.TestCase):
    def assert_sorted(self, leans, order, nexts):
        # By their written forms: so the kinds and the order of the keys are looked at too. Asked twice.
        kept = copy.deepcopy(leans)
        for time in range(2):
            self.assertEqual(repr(sorted_out(leans)), repr((order, nexts)))
            self.assertEqual(repr(leans), repr(kept))

    def assert_text(self, text, order, nexts=""):
        pairs = [pair.split("<") for pair in nexts.split()]
        self.assert_sorted(place_dict(text), places(order), {place_of(key): place_of(other) for key, other in pairs})


class Order(LeaningCase):
    def test_no_keys(self):
        self.assert_sorted({}, [], {})

    def test_keys_that_lean_on_nothing(self):
        self.assert_text("A1<", "A1")
        self.assert_text("B2<, A1<, C1<, A2<", "A1 C1 A2 B2")
        self.assert_text("A10<, B9<, Z1<, A2<", "Z1 A2 B9 A10")

    def test_places_that_are_no_keys(self):
        self.assert_text("B1<A1 C1, D1<Z99 A1", "B1 D1")
        self.assert_sorted({(0, 0): [(-1, 5), (99, 0), (0, 26)]}, [(0, 0)], {})

    def test_a_chain(self):
        self.assert_text("A1<, A2<A1, A3<A2", "A1 A2 A3")
        self.assert_text("A1<A2, A2<A3, A3<", "A3 A2 A1")
        self.assert_text("A1<C3, B2<A1, C3<", "C3 A1 B2")

    def test_a_fork_and_back_together(self):
        self.assert_text("A1<B1 C1, B1<D1, C1<D1, D1<", "D1 B1 C1 A1")
        self.assert_text("D1<B1 C1, B1<A1, C1<A1, A1<", "A1 B1 C1 D1")
        self.assert_text("A1<B1 C1, B1<C1, C1<", "C1 B1 A1")

    def test_always_the_least_of_those_that_can_come(self):
        # A1 can come behind B1 only, and comes then ahead of C1, which could come from the start on.
        self.assert_text("A1<B1, B1<, C1<", "B1 A1 C1")
        self.assert_text("A1<D1, B1<, C1<, D1<", "B1 C1 D1 A1")
        self.assert_text("A1<C1, B1<C1, C1<, D1<B1", "C1 A1 B1 D1")
        self.assert_text("A1<B5, A2<B4, A3<B3, B3<, B4<, B5<", "B3 A3 B4 A2 B5 A1")
        self.assert_text("C1<A9, A2<C1, B2<A9, A9<, D9<", "A9 C1 A2 B2 D9")

    def test_by_row_and_then_by_column(self):
        self.assert_text("A2<, B1<, C3<A2, A3<A2, Z1<C3", "B1 A2 A3 C3 Z1")

    def test_a_place_twice_and_lists_in_any_order(self):
        for row in itertools.permutations(places("B1 B1 C1 D1 Z9")):
            leans = place_dict("A1<, B1<, C1<D1, D1<")
            leans[(0, 0)] = list(row)
            self.assert_sorted(leans, places("B1 D1 C1 A1"), {})
        self.assert_text("A1<B1 B1 B1, B1<C1 C1, C1<", "C1 B1 A1")
        self.assert_text("A1<B1 A1 B1 A1, B1<", "B1", "A1<A1")

    def test_pairs_beyond_the_bounds(self):
        leans = {(120, 3): [(-2, 40)], (-2, 40): [], (0, 0): [(120, 3)], (99, 26): []}
        self.assert_sorted(leans, [(-2, 40), (99, 26), (120, 3), (0, 0)], {})
        self.assert_sorted({(120, 3): [(-2, 40)], (-2, 40): [(120, 3)]}, [], {(-2, 40): (120, 3), (120, 3): (-2, 40)})


class Stuck(LeaningCase):
    def test_one_that_leans_on_itself(self):
        self.assert_text("A1<A1", "", "A1<A1")
        self.assert_text("A1<B1, B1<B1, C1<", "C1", "A1<B1 B1<B1")

    def test_two_and_more_that_lean_round(self):
        self.assert_text("A1<B1, B1<A1", "", "A1<B1 B1<A1")
        self.assert_text("C1<A1, B1<C1, A1<B1", "", "A1<B1 B1<C1 C1<A1")
        self.assert_text("A1<C1, C1<B1, B1<D2, D2<A1", "", "A1<C1 B1<D2 C1<B1 D2<A1")

    def test_two_rings(self):
        self.assert_text("A1<B1, B1<A1, A2<B2, B2<A2, C1<", "C1", "A1<B1 B1<A1 A2<B2 B2<A2")

    def test_two_rings_through_one(self):
        self.assert_text("A1<B1 C1, B1<A1, C1<A1", "", "A1<B1 B1<A1 C1<A1")
        self.assert_text("B1<C1 A1, C1<B1, A1<B1", "", "A1<B1 B1<A1 C1<B1")

    def test_a_ring_that_leans_on_another_one(self):
        self.assert_text("A1<B1, B1<A1 C1, C1<D1, D1<C1", "", "A1<B1 B1<A1 C1<D1 D1<C1")
        # The next is the least one, be it on the same ring or not.
        self.assert_text("C1<D1, D1<C1 A1, A1<B1, B1<A1", "", "A1<B1 B1<A1 C1<D1 D1<A1")

    def test_keys_that_lean_on_a_ring_without_being_on_it(self):
        self.assert_text("A1<B1, B1<B1, C1<A1, D1<C1 E1, E1<", "E1", "A1<B1 B1<B1 C1<A1 D1<C1")

    def test_keys_on_which_a_ring_leans(self):
        self.assert_text("A1<, B1<A1 C1, C1<B1 D1, D1<A1", "A1 D1", "B1<C1 C1<B1")

    def test_the_next_is_the_least_stuck_one_and_not_the_least_one(self):
        self.assert_text("A1<, B1<A1 D1 C1, C1<D1, D1<D1 C1 A1", "A1", "B1<C1 C1<D1 D1<C1")
        # A2 is no key, and A1 is not stuck.
        self.assert_text("A1<, C5<A2 A1 C5", "A1", "C5<C5")

    def test_the_keys_of_the_nexts_are_in_order(self):
        for names in itertools.permutations(("A1", "C1", "B2", "A3")):
            leans = {place_of(name): [place_of("A3")] for name in names}
            self.assert_sorted(leans, [], {place: (2, 0) for place in places("A1 C1 B2 A3")})

    def test_a_place_twice_in_a_ring(self):
        self.assert_text("A1<B1 B1, B1<A1 C1 A1, C1<", "C1", "A1<B1 B1<A1")


class AgainstThePoints(LeaningCase):
    def assert_as_told(self, leans):
        self.assertEqual(repr(sorted_out(leans)), repr(told_plainly(leans)))

    def test_all_ways_in_which_three_lean(self):
        keys = places("A1 B1 A2")
        lists = [list(row) for many in range(4) for row in itertools.combinations(keys, many)]
        lists.extend([row + places("Z9") for row in lists])
        for rows in itertools.product(lists, repeat=3):
            self.assert_as_told(dict(zip(keys, rows)))

    def test_many_ways_in_which_more_lean(self):
        chance = random.Random(51)
        for time in range(1500):
            keys = chance.sample(between((0, 0), (4, 4)), chance.randint(2, 12))
            beside = keys + between((6, 0), (6, 2))
            most = chance.choice((1, 1, 2, 3))
            self.assert_as_told({key: [chance.choice(beside) for step in range(chance.randint(0, most))] for key in keys})

    def test_many_ways_without_a_ring(self):
        chance = random.Random(52)
        for time in range(500):
            keys = chance.sample(between((0, 0), (6, 6)), 15)
            leans = {key: [chance.choice(keys[:at]) for step in range(chance.randint(0, 3)) if at]
                     for at, key in enumerate(keys)}
            self.assertEqual(sorted_out(leans)[1], {})
            self.assert_as_told(dict(chance.sample(list(leans.items()), 15)))


class Many(LeaningCase):
    def test_some_hundred_keys(self):
        chance = random.Random(53)
        keys = chance.sample(WHOLE, 300)
        self.assert_sorted({key: [] for key in keys}, sorted(keys), {})
        leans = {key: chance.sample(keys[:at], min(at, 3)) for at, key in enumerate(keys)}
        self.assert_sorted(leans, *told_plainly(leans))
        leans[keys[0]] = [keys[-1]]
        self.assert_sorted(leans, *told_plainly(leans))

    def test_a_whole_sheet_in_a_chain(self):
        ways = (WHOLE, WHOLE[::-1], random.Random(54).sample(WHOLE, len(WHOLE)))
        for way in ways:
            leans = {place: [way[at - 1]] if at else [] for at, place in enumerate(way)}
            self.assert_sorted(leans, way, {})

    def test_a_whole_sheet_in_a_ring(self):
        way = random.Random(55).sample(WHOLE, len(WHOLE))
        leans = {place: [way[at - 1]] for at, place in enumerate(way)}
        self.assert_sorted(leans, [], {place: leans[place][0] for place in WHOLE})

    def test_a_whole_sheet_that_leans_on_one_and_one_on_all(self):
        first = {place: [(50, 5)] if place != (50, 5) else [] for place in WHOLE}
        self.assert_sorted(first, [(50, 5)] + [place for place in WHOLE if place != (50, 5)], {})
        rest = [place for place in WHOLE if place != (0, 0)]
        last = {place: [] for place in rest}
        last[(0, 0)] = list(WHOLE[1:])
        self.assert_sorted(last, rest + [(0, 0)], {})


class WhatIsTold(LeaningCase):
    def test_what_was_told_and_then_changed_changes_nothing(self):
        leans = place_dict("A1<B1, B1<, C1<C1 A1")
        kept = copy.deepcopy(leans)
        order, nexts = sorted_out(leans)
        order.clear()
        nexts.clear()
        self.assertEqual(leans, kept)
        self.assertEqual(sorted_out(leans), (places("B1 A1"), {(0, 2): (0, 2)}))

    def test_what_is_changed_behind_the_call_changes_nothing_told(self):
        leans = place_dict("A1<B1, B1<, C1<C1 A1")
        told = sorted_out(leans)
        leans[(0, 1)].append((0, 0))
        leans[(5, 5)] = []
        leans[(0, 2)].clear()
        self.assertEqual(told, (places("B1 A1"), {(0, 2): (0, 2)}))
        self.assertEqual(sorted_out(leans), (places("C1 F6"), {(0, 0): (0, 1), (0, 1): (0, 0)}))


if __name__ == "__main__":
    unittest.main()
