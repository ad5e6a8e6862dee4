"""Point 53: slate/rings.py."""

import copy
import itertools
import random
import unittest

from making import places
from slate.errors import NoRing, SlateError
from slate.leaning import sorted_out
from slate.places import between, place_of
from slate.rings import ring_of


def nexts_of(text):
    """`A1<B1 B1<A1`: A1 has B1 as its next, and B1 has A1."""
    pairs = [pair.split("<") for pair in text.split()]
    return {place_of(key): place_of(other) for key, other in pairs}


class RingCase(unittest.TestCase):
    def assert_ring(self, nexts, place, ring):
        kept = copy.deepcopy(nexts)
        for time in range(2):
            self.assertEqual(repr(ring_of(nexts, place)), repr(ring))
            self.assertEqual(repr(nexts), repr(kept))

    def assert_text(self, text, name, ring):
        self.assert_ring(nexts_of(text), place_of(name), places(ring))


class Rings(RingCase):
    def test_a_ring_of_one(self):
        self.assert_text("A1<A1", "A1", "A1")
        self.assert_text("C2<C2 A1<C2", "A1", "C2")

    def test_a_ring_of_two(self):
        for name in ("A1", "B1"):
            self.assert_text("A1<B1 B1<A1", name, "A1 B1")
            self.assert_text("B1<A1 A1<B1", name, "A1 B1")

    def test_begun_by_the_least_and_going_on_by_nexts(self):
        for name in ("A1", "C3", "B2"):
            self.assert_text("A1<C3 B2<A1 C3<B2", name, "A1 C3 B2")
        for name in ("B1", "A2", "C1", "A3"):
            self.assert_text("A3<B1 A2<C1 B1<A2 C1<A3", name, "B1 A2 C1 A3")

    def test_from_a_place_that_leads_to_it(self):
        for name in ("A1", "A2", "A3", "B1", "B2"):
            self.assert_text("A1<A2 A2<A3 A3<B2 B1<B2 B2<B1", name, "B1 B2")
        # The ring is come to at one that is not its least.
        self.assert_text("A1<C3 B1<C3 C3<D4 D4<B1", "A1", "B1 C3 D4")
        self.assert_text("Z9<C3 B1<C3 C3<D4 D4<B1", "Z9", "B1 C3 D4")

    def test_each_of_two_rings(self):
        text = "A1<B1 B1<A1 C1<D1 D1<C1 E1<D1"
        for name, ring in (("A1", "A1 B1"), ("B1", "A1 B1"), ("C1", "C1 D1"), ("D1", "C1 D1"), ("E1", "C1 D1")):
            self.assert_text(text, name, ring)

    def test_the_least_by_row_and_then_by_column(self):
        self.assert_text("A2<Z1 Z1<B1 B1<A2", "A2", "B1 A2 Z1")
        self.assert_text("A10<A9 A9<A10", "A10", "A9 A10")

    def test_all_ways_in_which_four_have_nexts(self):
        keys = places("A1 B1 A2 B2")
        for row in itertools.product(keys, repeat=4):
            nexts = dict(zip(keys, row))
            for place in keys:
                # What comes again and again is what is met behind many steps.
                path = [place]
                for step in range(20):
                    path.append(nexts[path[-1]])
                again = sorted(set(path[8:]))
                ring = [again[0]]
                while nexts[ring[-1]] != again[0]:
                    ring.append(nexts[ring[-1]])
                self.assertEqual(len(ring), len(again))
                self.assert_ring(nexts, place, ring)

    def test_a_ring_of_a_whole_sheet(self):
        way = random.Random(53).sample(between((0, 0), (98, 25)), 99 * 26)
        nexts = {place: way[at - 1] for at, place in enumerate(way)}
        back = way[::-1]
        at = back.index((0, 0))
        for place in ((0, 0), (98, 25), way[0]):
            self.assert_ring(nexts, place, back[at:] + back[:at])

    def test_a_long_way_to_a_ring(self):
        way = between((0, 0), (98, 25))
        nexts = dict(zip(way, way[1:] + way[-1:]))
        self.assert_ring(nexts, (0, 0), [(98, 25)])

    def test_pairs_beyond_the_bounds(self):
        self.assert_ring({(120, 3): (-2, 40), (-2, 40): (120, 3)}, (120, 3), [(-2, 40), (120, 3)])

    def test_by_what_is_sorted_out(self):
        leans = {place_of(key): places(row) for key, row in (("B1", "C1 A1"), ("C1", "B1"), ("A1", ""), ("A2", "C1"))}
        nexts = sorted_out(leans)[1]
        for name in ("B1", "C1", "A2"):
            self.assert_ring(nexts, place_of(name), places("B1 C1"))
        with self.assertRaises(NoRing):
            ring_of(nexts, place_of("A1"))


class NoRings(RingCase):
    def assert_no_ring(self, nexts, place):
        kept = dict(nexts)
        with self.assertRaises(NoRing) as caught:
            ring_of(nexts, place)
        self.assertIsInstance(caught.exception, SlateError)
        self.assertEqual(nexts, kept)

    def test_a_place_that_is_no_key(self):
        self.assert_no_ring({}, (0, 0))
        self.assert_no_ring(nexts_of("A1<B1 B1<A1"), (1, 0))
        self.assert_no_ring(nexts_of("B3<B3"), (1, 2))

    def test_pairs_beyond_the_bounds(self):
        for place in ((99, 0), (0, 26), (-1, 0), (0, -1), (-1, -1), (10 ** 40, 0), (0, -10 ** 40)):
            self.assert_no_ring({}, place)
            self.assert_no_ring(nexts_of("A1<B1 B1<A1 Z99<A1"), place)


class WhatIsTold(RingCase):
    def test_a_list_that_was_told_and_then_changed_changes_nothing(self):
        nexts = nexts_of("A1<B1 B1<A1")
        ring_of(nexts, (0, 0)).clear()
        self.assert_ring(nexts, (0, 0), places("A1 B1"))

    def test_what_is_changed_behind_the_call_changes_nothing_told(self):
        nexts = nexts_of("A1<B1 B1<A1")
        told = ring_of(nexts, (0, 0))
        nexts[(0, 0)] = (0, 0)
        self.assertEqual(told, places("A1 B1"))
        self.assert_ring(nexts, (0, 1), places("A1"))


if __name__ == "__main__":
    unittest.main()
