"""Points 61, 62 and 63: slate/settling.py."""

import copy
import itertools
import random
import unittest

from making import (GONE, TROUBLES, WORDS, area, cells, each_kind, log_of, minus, num, over, pick, places, ref,
                    settled_plainly, sixty_leaves, two, values)
from slate.places import between, place_name
from slate.reading import read_formula
from slate.settling import from_start, leans_of, settled
from slate.trees import meant


class SettlingCase(unittest.TestCase):
    def assert_leans(self, contents, leans):
        kept = copy.deepcopy(contents)
        for time in range(2):
            self.assertEqual(repr(leans_of(contents)), repr(leans))
            self.assertEqual(repr(contents), repr(kept))

    def assert_settled(self, contents, ahead, others, shown, log):
        # By their written forms: so the kinds and the order of the keys are looked at too. Asked twice.
        kept = copy.deepcopy((contents, ahead, others))
        for time in range(2):
            self.assertEqual(repr(settled(contents, ahead, others)), repr((shown, log)))
            self.assertEqual(repr((contents, ahead, others)), repr(kept))

    def assert_text(self, contents, ahead, others, shown, log):
        self.assert_settled(cells(contents), values(ahead), places(others), values(shown), log_of(log))


class Leans(SettlingCase):
    def test_nothing_and_numbers_alone(self):
        self.assert_leans({}, {})
        self.assert_leans(cells("A1 := 5, B2 := -3, C3 := 0"), {})

    def test_numbers_and_trees(self):
        self.assert_leans(cells("A1 := 5, B1 := =A1+1, C1 := =2*3"), {(0, 1): [(0, 0)], (0, 2): []})

    def test_each_kind_of_tree(self):
        for tree, names in ((num(3), ""), (GONE, ""), (ref(2, 1, (True, True)), "B3"), (minus(ref(0, 0)), "A1"),
                            (two("/", ref(4, 4), ref(0, 1)), "B1 E5"), (over(num(1)), ""),
                            (over(area((0, 0), (1, 1))), "A1 B1 A2 B2")):
            self.assert_leans({(9, 9): tree}, {(9, 9): places(names)})
        for tree in each_kind(ref(3, 3), ref(0, 4)):
            self.assert_leans({(0, 0): tree}, {(0, 0): meant(tree)})
        self.assert_leans({(0, 0): sixty_leaves()}, {(0, 0): meant(sixty_leaves())})

    def test_the_keys_are_in_order_whatever_the_order_of_the_contents(self):
        rows = list(cells("A1 := =B1, B1 := 4, C1 := =A2, A2 := =A1, B2 := =#").items())
        for row in itertools.permutations(rows):
            self.assert_leans(dict(row), {(0, 0): [(0, 1)], (0, 2): [(1, 0)], (1, 0): [(0, 0)], (1, 1): []})

    def test_a_place_meant_twice_is_told_once_and_in_order(self):
        self.assert_leans(cells("A1 := =C3+B2+C3+SUM(B2:C3,B2)"), {(0, 0): places("B2 C2 B3 C3")})

    def test_what_pick_does_not_take_is_told_too(self):
        self.assert_leans(cells("A1 := =PICK(1,B1,C1), A2 := =PICK(0,B1,C1)"),
                          {(0, 0): places("B1 C1"), (1, 0): places("B1 C1")})
        self.assert_leans({(0, 0): pick(ref(5, 5), num(1), ref(0, 0))}, {(0, 0): [(0, 0), (5, 5)]})

    def test_what_was_told_and_then_changed_changes_nothing(self):
        contents = {(0, 0): over(ref(1, 1), word="MAX"), (3, 3): ref(1, 1)}
        kept = copy.deepcopy(contents)
        told = leans_of(contents)
        told[(0, 0)].append((9, 9))
        told.clear()
        self.assertEqual(contents, kept)
        self.assert_leans(contents, {(0, 0): [(1, 1)], (3, 3): [(1, 1)]})


class FirstTime(SettlingCase):
    def test_nothing(self):
        self.assert_settled({}, {}, [], {}, [])

    def test_numbers_alone(self):
        self.assert_text("B1 := 5, A1 := -3, A2 := 0", "", "", "A1=-3 B1=5 A2=0", "")
        self.assert_text("A1 := 5", "", "A1", "A1=5", "")
        self.assert_settled({(0, 0): 10 ** 30, (0, 1): -10 ** 30}, {}, [], {(0, 0): 10 ** 30, (0, 1): -10 ** 30}, [])

    def test_formulas_that_lean_on_numbers(self):
        self.assert_text("A1 := 5, B1 := =A1*2", "", "B1", "A1=5 B1=10", "B1<B1")

    def test_formulas_that_lean_on_empty_places(self):
        self.assert_text("B1 := =A1+1, C1 := =COUNT(A1:A9), D1 := =1/A1", "", "B1 C1 D1", "B1=1 C1=0 D1=nought",
                         "B1<B1 C1<C1 D1<D1")

    def test_formulas_that_lean_on_one_another(self):
        self.assert_text("A1 := =B1+1, B1 := =C1+1, C1 := =1", "", "A1 B1 C1", "A1=3 B1=2 C1=1", "C1<C1 B1<B1 A1<A1")

    def test_the_keys_are_in_order_whatever_the_order_of_the_contents(self):
        rows = list(cells("A1 := =B2, B1 := 4, C1 := =C1, A2 := =B1, B2 := =A2+1").items())
        for row in itertools.permutations(rows):
            self.assert_settled(dict(row), {}, places("A1 C1 A2 B2"), values("A1=5 B1=4 C1=ring A2=4 B2=5"),
                                log_of("A2<A2 B2<B2 A1<A1"))

    def test_the_log_is_in_the_order_in_which_they_come(self):
        # A1 can come behind B1 only, and comes then ahead of C1.
        self.assert_text("C1 := =1, A1 := =B1, B1 := =2", "", "C1 A1 B1", "A1=2 B1=2 C1=1", "B1<B1 A1<A1 C1<C1")

    def test_troubles_are_shown(self):
        self.assert_text("A1 := =#, B1 := =1/0, C1 := =A1+B1, D1 := =999999999999*E1*E1, E1 := 999999999999", "",
                         "A1 B1 C1 D1", "A1=gone B1=nought C1=gone D1=great E1=999999999999",
                         "A1<A1 B1<B1 C1<C1 D1<D1")


class WhichAreReckoned(SettlingCase):
    contents = "A1 := 5, B1 := =A1+1, C1 := =B1+1, D1 := =A2, A2 := 7"

    def test_none_where_nothing_is_other(self):
        self.assert_text(self.contents, "A1=5 B1=6 C1=7 D1=7 A2=7", "", "A1=5 B1=6 C1=7 D1=7 A2=7", "")

    def test_what_is_not_reckoned_shows_what_it_showed(self):
        # 66 is not what reckoning gives: so it is seen that none was done.
        self.assert_text(self.contents, "A1=5 B1=66 C1=7 D1=7 A2=7", "", "A1=5 B1=66 C1=7 D1=7 A2=7", "")
        self.assert_text("B1 := =A1", "B1=great", "", "B1=great", "")

    def test_where_its_place_is_in_the_list(self):
        self.assert_text(self.contents, "A1=5 B1=66 C1=7 D1=7 A2=7", "D1", "A1=5 B1=66 C1=7 D1=7 A2=7", "D1<D1")
        self.assert_text(self.contents, "A1=5 B1=66 C1=7 D1=7 A2=7", "B1", "A1=5 B1=6 C1=7 D1=7 A2=7", "B1<B1 C1<B1")

    def test_where_it_showed_ring(self):
        self.assert_text("B1 := =A1+1", "B1=ring", "", "B1=1", "B1<B1")
        self.assert_text("A1 := =B1, B1 := =3", "A1=ring B1=ring", "B1", "A1=3 B1=3", "B1<B1 A1<A1")

    def test_where_a_place_that_it_leans_on_shows_other(self):
        self.assert_text(self.contents, "A1=4 B1=5 C1=6 D1=7 A2=7", "A1", "A1=5 B1=6 C1=7 D1=7 A2=7", "B1<A1 C1<B1")
        # Whether the place stands in the list of others changes nothing of that.
        self.assert_text(self.contents, "A1=4 B1=5 C1=6 D1=7 A2=7", "", "A1=5 B1=6 C1=7 D1=7 A2=7", "B1<A1 C1<B1")

    def test_not_where_what_it_leans_on_was_reckoned_and_shows_the_same(self):
        self.assert_text("A1 := 9, B1 := =A1<5, C1 := =B1+1, D1 := =C1", "A1=8 B1=0 C1=77 D1=5", "A1",
                         "A1=9 B1=0 C1=77 D1=5", "B1<A1")
        self.assert_text("A1 := =1+2, B1 := =A1", "A1=3 B1=88", "A1", "A1=3 B1=88", "A1<A1")

    def test_not_where_only_what_it_leans_on_by_another_shows_other(self):
        self.assert_text("A1 := 9, B1 := =A1*0, C1 := =B1", "A1=8 B1=0 C1=77", "A1", "A1=9 B1=0 C1=77", "B1<A1")

    def test_a_place_in_the_list_with_the_content_it_had(self):
        self.assert_text(self.contents, "A1=5 B1=6 C1=7 D1=7 A2=7", "A1 A2", "A1=5 B1=6 C1=7 D1=7 A2=7", "")
        self.assert_text(self.contents, "A1=5 B1=6 C1=7 D1=7 A2=7", "C1", "A1=5 B1=6 C1=7 D1=7 A2=7", "C1<C1")

    def test_what_pick_does_not_take_counts_too(self):
        self.assert_text("A1 := =PICK(1,7,B1), B1 := 3", "A1=7 B1=2", "B1", "A1=7 B1=3", "A1<B1")

    def test_an_area_counts_wherever_in_it_one_shows_other(self):
        for place in between((1, 1), (3, 3)):
            contents = {(0, 0): over(area((1, 1), (3, 3)), word="COUNT"), place: 5}
            self.assert_settled(contents, {(0, 0): 0}, [place], {(0, 0): 1, place: 5}, [((0, 0), place)])
        for place in ((0, 1), (4, 1), (1, 4), (2, 0), (2, 4), (4, 4)):
            contents = {(0, 0): over(area((1, 1), (3, 3)), word="COUNT"), place: 5}
            self.assert_settled(contents, {(0, 0): 0}, [place], {(0, 0): 0, place: 5}, [])

    def test_each_kind_of_value_tells_other_from_same(self):
        kinds = (0, 1, -1, None) + TROUBLES[:3]
        texts = {0: "=0", 1: "=1", -1: "=-1", "gone": "=#", "nought": "=1/0", "great": "=-B9*B9"}
        for before, now in itertools.product(kinds, kinds):
            contents = cells("A1 := =COUNT(A2), B9 := 1000000000000000000" + (f", A2 := {texts[now]}" if now in texts else ""))
            ahead = {(0, 0): 55, (8, 1): 10 ** 18}
            if before is not None:
                ahead[(1, 0)] = before
            shown, log = settled(contents, ahead, [(1, 0)])
            self.assertEqual(((0, 0), (1, 0)) in log, before != now, (before, now))
            self.assertEqual(shown[(0, 0)] == 55, before == now, (before, now))


class Why(SettlingCase):
    def test_the_place_itself_ahead_of_what_it_leans_on(self):
        self.assert_text("B2 := =A1, A1 := 3", "A1=2 B2=2", "A1 B2", "A1=3 B2=3", "B2<B2")
        self.assert_text("B2 := =A1, A1 := 3", "A1=2 B2=ring", "A1", "A1=3 B2=3", "B2<B2")

    def test_the_least_place_that_shows_other(self):
        text = "A1 := 1, B1 := 2, A2 := 3, C3 := =A2+B1+A1"
        self.assert_text(text, "A1=0 B1=0 A2=0 C3=0", "A1 B1 A2", "A1=1 B1=2 A2=3 C3=6", "C3<A1")
        self.assert_text(text, "A1=1 B1=0 A2=0 C3=1", "B1 A2", "A1=1 B1=2 A2=3 C3=6", "C3<B1")
        self.assert_text(text, "A1=1 B1=2 A2=0 C3=3", "A2", "A1=1 B1=2 A2=3 C3=6", "C3<A2")
        # Not the least of the list of others: A1 is in it, but shows the same.
        self.assert_text(text, "A1=1 B1=2 A2=0 C3=3", "A1 B1 A2", "A1=1 B1=2 A2=3 C3=6", "C3<A2")

    def test_a_formula_may_be_why(self):
        self.assert_text("A1 := =C1, B1 := 4, C1 := =B1, D1 := =B1+A1", "A1=3 B1=3 C1=3 D1=6", "B1",
                         "A1=4 B1=4 C1=4 D1=8", "C1<B1 A1<C1 D1<A1")

    def test_one_that_was_emptied(self):
        self.assert_text("B1 := =A1+C1, C1 := 5", "A1=3 B1=8 C1=5", "A1", "B1=5 C1=5", "B1<A1")
        self.assert_text("B1 := =A1+C1, C1 := 5", "A1=3 B1=7 C1=4", "A1 C1", "B1=5 C1=5", "B1<A1")
        self.assert_text("B1 := =A1+C1, A1 := 5", "A1=5 B1=8 C1=3", "C1", "A1=5 B1=5", "B1<C1")
        self.assert_text("B1 := =COUNT(A1)", "A1=ring B1=ring", "A1", "B1=0", "B1<B1")

    def test_one_that_was_filled(self):
        self.assert_text("A1 := 0, B1 := =A1", "B1=0", "A1", "A1=0 B1=0", "B1<A1")


class OtherLists(SettlingCase):
    def test_places_twice_and_in_any_order(self):
        for others in itertools.permutations(places("B1 A1 B1 D1 A1")):
            self.assert_settled(cells("A1 := 5, B1 := =A1+1, D1 := =B1"), values("A1=5"), list(others),
                                values("A1=5 B1=6 D1=6"), log_of("B1<B1 D1<D1"))

    def test_places_without_a_formula_or_a_content(self):
        self.assert_text("A1 := 5, B1 := =A1", "A1=5 B1=5", "A1 C1 Z99", "A1=5 B1=5", "")
        self.assert_text("", "A1=5 B1=5", "A1 B1", "", "")
        self.assert_settled({}, {}, [(-1, 0), (99, 0), (0, 26)], {}, [])


class WhatWasShownAhead(SettlingCase):
    def test_at_places_without_a_content_now(self):
        self.assert_text("A1 := 5, B1 := =A1", "A1=5 B1=5 C1=7 D1=ring Z99=gone", "", "A1=5 B1=5", "")
        self.assert_text("", "A1=5 B1=ring", "", "", "")

    def test_none_told_is_the_same_as_not_told(self):
        self.assert_text("B1 := =A1+1", "A1= B1=1", "", "B1=1", "")
        self.assert_text("B1 := =A1+1, A1 := 2", "A1= B1=1", "A1", "A1=2 B1=3", "B1<A1")

    def test_pairs_that_are_no_places(self):
        for place in ((-1, 0), (0, -1), (99, 0), (0, 26), (10 ** 40, -5)):
            for value in (3, None) + TROUBLES:
                ahead = {place: value, **values("A1=5 B1=5")}
                self.assert_settled(cells("A1 := 5, B1 := =A1+C1"), ahead, [], values("A1=5 B1=5"), [])
                # Not even where a tree means them.
                self.assert_settled({(0, 0): ref(*place)}, {(0, 0): 0, place: value}, [], {(0, 0): 0}, [])

    def test_contents_somewhat_beyond_the_bounds(self):
        contents = {(120, 30): 4, (130, 0): ref(120, 30), (0, 0): ref(130, 0)}
        shown = {(0, 0): 4, (120, 30): 4, (130, 0): 4}
        self.assert_settled(contents, {}, [(130, 0), (0, 0)], shown, [((130, 0), (130, 0)), ((0, 0), (0, 0))])
        self.assert_settled(contents, shown, [], shown, [])
        self.assert_settled(contents, {**shown, (120, 30): 3}, [(120, 30)], shown, [((130, 0), (120, 30))])

    def test_a_number_shows_itself_whatever_was_shown(self):
        self.assert_text("A1 := 5", "A1=ring", "A1", "A1=5", "")
        self.assert_text("A1 := 5", "A1=6", "", "A1=5", "")


class Rings(SettlingCase):
    def test_a_ring_that_comes(self):
        self.assert_text("A1 := =B1, B1 := =A1", "B1=0", "A1", "A1=ring B1=ring", "")
        self.assert_text("A1 := =A1", "", "A1", "A1=ring", "")
        # What leaned on it showed a value, and is stuck now: it is not reckoned either.
        self.assert_text("A1 := =B1, B1 := =A1, C1 := =B1+D1, D1 := 3", "B1=4 C1=7 D1=3", "A1",
                         "A1=ring B1=ring C1=ring D1=3", "")

    def test_a_ring_that_stays(self):
        self.assert_text("A1 := =B1, B1 := =A1, C1 := 5, D1 := =C1", "A1=ring B1=ring C1=4 D1=4", "C1",
                         "A1=ring B1=ring C1=5 D1=5", "D1<C1")

    def test_a_ring_that_is_broken(self):
        self.assert_text("A1 := 5, B1 := =A1, C1 := =B1", "A1=ring B1=ring C1=ring", "A1", "A1=5 B1=5 C1=5",
                         "B1<B1 C1<C1")
        self.assert_text("B1 := =A1", "A1=ring B1=ring", "A1", "B1=0", "B1<B1")
        self.assert_text("A1 := =2, B1 := =A1, C1 := =COUNT(B1)", "A1=ring B1=ring C1=ring", "A1", "A1=2 B1=2 C1=1",
                         "A1<A1 B1<B1 C1<C1")

    def test_one_of_two_rings_is_broken(self):
        self.assert_text("A1 := 1, B1 := =A1, A2 := =B2, B2 := =A2+B1", "A1=ring B1=ring A2=ring B2=ring", "A1",
                         "A1=1 B1=1 A2=ring B2=ring", "B1<B1")

    def test_a_formula_that_leans_on_a_ring(self):
        self.assert_text("A1 := =A1, B1 := =A1+1, C1 := =PICK(1,5,B1), D1 := =COUNT(A1:C1)", "", "A1 B1 C1 D1",
                         "A1=ring B1=ring C1=ring D1=ring", "")

    def test_a_ring_that_pick_does_not_take(self):
        self.assert_text("A1 := =PICK(1,5,A1)", "", "A1", "A1=ring", "")
        self.assert_text("A1 := =PICK(1,5,B1), B1 := =A1", "", "A1 B1", "A1=ring B1=ring", "")

    def test_a_ring_through_an_area(self):
        self.assert_text("A5 := =SUM(A1:A4), A2 := =A5", "", "A5 A2", "A2=ring A5=ring", "")
        self.assert_text("A2 := =SUM(A1:A4)", "", "A2", "A2=ring", "")

    def test_what_a_ring_leans_on_is_reckoned(self):
        self.assert_text("A1 := =2*3, B1 := =A1+C1, C1 := =B1", "", "A1 B1 C1", "A1=6 B1=ring C1=ring", "A1<A1")


class FromStart(SettlingCase):
    def assert_from_start(self, contents, shown):
        kept = copy.deepcopy(contents)
        for time in range(2):
            self.assertEqual(repr(from_start(contents)), repr(shown))
            self.assertEqual(repr(contents), repr(kept))

    def test_ordinary_contents(self):
        self.assert_from_start({}, {})
        self.assert_from_start(cells("B1 := 5, A1 := =B1*2"), values("A1=10 B1=5"))
        self.assert_from_start(cells("C1 := =C1, A1 := =D1+1, B1 := =C1, A2 := =#"), values("A1=1 B1=ring C1=ring A2=gone"))

    def test_the_keys_are_in_order_whatever_the_order_of_the_contents(self):
        rows = list(cells("A1 := =B2, B1 := 4, C1 := =C1, A2 := =B1, B2 := =A2+1").items())
        for row in itertools.permutations(rows):
            self.assert_from_start(dict(row), values("A1=5 B1=4 C1=ring A2=4 B2=5"))

    def test_each_word_over_an_area(self):
        for word, wanted in zip(WORDS, (9, 3, 5)):
            contents = {**cells("A1 := 5, A2 := =A1-1, B2 := =0"), (5, 5): over(area((0, 0), (1, 1)), word=word)}
            self.assert_from_start(contents, {**values("A1=5 A2=4 B2=0"), (5, 5): wanted})

    def test_a_whole_sheet_in_a_chain(self):
        whole = between((0, 0), (98, 25))
        contents = {place: read_formula(place_name(whole[at - 1]) + "+1") if at else 1 for at, place in enumerate(whole)}
        self.assertEqual(repr(from_start(contents)), repr({place: at for at, place in enumerate(whole, 1)}))
        contents[(0, 0)] = read_formula("Z99")
        self.assertEqual(from_start(contents), {place: "ring" for place in whole})


class AgainstThePoint(SettlingCase):
    texts = ("=A1", "=B1+1", "=C1", "=A2-B2", "=SUM(A1:B2)", "=COUNT(B1:C3,A1)", "=PICK(A1,B1,C1)", "=C3/B3", "=MAX(A3:C3)",
             "=A1<B2", "=#", "=7", "=B2*0", "=D4+A3")

    def some_content(self, chance):
        kind = chance.random()
        if kind < 0.3:
            return chance.randint(-2, 2)
        return read_formula(chance.choice(self.texts)[1:])

    def changed(self, contents, chance):
        found = dict(contents)
        others = chance.sample(between((0, 0), (2, 2)), chance.randint(0, 3))
        for place in others:
            if chance.random() < 0.2:
                found.pop(place, None)
            else:
                found[place] = self.some_content(chance)
        return found, others

    def test_deed_by_deed(self):
        chance = random.Random(62)
        for time in range(60):
            contents, shown = {}, {}
            for deed in range(30):
                contents, others = self.changed(contents, chance)
                wanted = settled_plainly(contents, shown, others)
                self.assert_settled(contents, shown, others, *wanted)
                shown = wanted[0]
                self.assertEqual(repr(from_start(contents)), repr(shown))
                formulas = [place for place in contents if isinstance(contents[place], tuple)]
                self.assertEqual(repr(settled(contents, {}, formulas)[0]), repr(shown))

    def test_whatever_was_shown_ahead(self):
        chance = random.Random(63)
        for time in range(1500):
            contents, others = self.changed(self.changed(self.changed({}, chance)[0], chance)[0], chance)
            ahead = {place: chance.choice((0, 1, 2, 7, None) + TROUBLES) for place in between((0, 0), (3, 3))}
            self.assert_settled(contents, ahead, others, *settled_plainly(contents, ahead, others))


class WhatIsTold(SettlingCase):
    def test_what_was_told_and_then_changed_changes_nothing(self):
        contents = cells("A1 := 5, B1 := =A1, C1 := =SUM(B1,1)")
        ahead = values("A1=4 B1=4 C1=5")
        others = places("A1")
        kept = copy.deepcopy((contents, ahead, others))
        shown, log = settled(contents, ahead, others)
        shown[(0, 0)] = 99
        shown.clear()
        log.clear()
        from_start(contents).clear()
        self.assertEqual((contents, ahead, others), kept)
        self.assert_settled(contents, ahead, others, values("A1=5 B1=5 C1=6"), log_of("B1<A1 C1<B1"))

    def test_what_is_changed_behind_the_call_changes_nothing_told(self):
        contents = cells("A1 := 5, B1 := =A1")
        ahead = values("A1=5 B1=5")
        others = places("A1")
        told = settled(contents, ahead, others)
        started = from_start(contents)
        leans = leans_of(contents)
        contents.clear()
        ahead.clear()
        others.clear()
        self.assertEqual(told, (values("A1=5 B1=5"), []))
        self.assertEqual(started, values("A1=5 B1=5"))
        self.assertEqual(leans, {(0, 1): [(0, 0)]})

    def test_ahead_and_shown_are_not_the_same_dict(self):
        contents = cells("A1 := 5, B1 := =A1")
        ahead = values("A1=5 B1=5")
        settled(contents, ahead, [])[0].clear()
        self.assertEqual(ahead, values("A1=5 B1=5"))


if __name__ == "__main__":
    unittest.main()
