"""Points 1 and 2, over the whole program: what holds of every sheet, behind every deed."""

import copy as copying
import random
import unittest

from making import settled_plainly
from slate.copying import copy_tree
from slate.deeds import copy, put
from slate.desk import done, run
from slate.errors import SlateError
from slate.moving import come_place, come_tree, go_place, go_tree
from slate.places import between, inside, place_name
from slate.reading import read_formula
from slate.reckoning import reckoned
from slate.settling import from_start
from slate.sheets import opened, ring_at, text_at, value_at
from slate.spans import come, go
from slate.trees import meant
from slate.writing import formula_text


def formulas(contents):
    return {place: content for place, content in contents.items() if isinstance(content, tuple)}


def stuck_places(contents):
    """By going on and on, step by step: stuck is who can be gone on from for ever."""
    left = {place: [other for other in meant(tree) if other in formulas(contents)]
            for place, tree in formulas(contents).items()}
    ends = [place for place in left if not left[place]]
    while ends:
        for place in ends:
            left.pop(place)
        left = {place: [other for other in row if other in left] for place, row in left.items()}
        ends = [place for place in left if not left[place]]
    return sorted(left)


def put_plainly(sheet, place, content):
    size, contents, shown = sheet
    behind = {**contents, place: content}
    if content is None:
        behind.pop(place)
    return size, behind, shown, [place] if content != contents.get(place) else []


def copy_plainly(sheet, start, place):
    content = sheet[1].get(start)
    if isinstance(content, tuple):
        content = copy_tree(content, place[0] - start[0], place[1] - start[1], sheet[0])
    return put_plainly(sheet, place, content)


def moved_plainly(sheet, axis, more, place_behind, tree_behind):
    size = tuple(there + (more if number == axis else 0) for number, there in enumerate(sheet[0]))
    contents, others = {}, []
    for place, content in sheet[1].items():
        behind = place_behind(place)
        if behind is not None:
            contents[behind] = tree_behind(content) if isinstance(content, tuple) else content
            if isinstance(content, tuple) and meant(contents[behind]) != [place_behind(one) for one in meant(content)]:
                others.append(behind)
    ahead = {place_behind(place): value for place, value in sheet[2].items() if place_behind(place) is not None}
    return size, contents, ahead, others


def come_plainly(sheet, axis, at, many):
    return moved_plainly(sheet, axis, many, lambda place: come_place(place, axis, at, many),
                         lambda tree: come_tree(tree, axis, at, many))


def go_plainly(sheet, axis, at, many):
    return moved_plainly(sheet, axis, -many, lambda place: go_place(place, axis, at, many),
                         lambda tree: go_tree(tree, axis, at, many))


PLAINLY = {put: put_plainly, copy: copy_plainly, come: come_plainly, go: go_plainly}


class Chance:
    """Deeds by chance, always the same ones for the same number."""

    def __init__(self, number, most=(8, 7)):
        self.chance = random.Random(number)
        self.most = most

    def place(self, size):
        return (self.chance.randrange(size[0]), self.chance.randrange(size[1]))

    def reference(self, size):
        name = place_name(self.place(size))
        return self.chance.choice(("", "", "$")) + name[0] + self.chance.choice(("", "", "$")) + name[1:]

    def area(self, size):
        one, other = self.place(size), self.place(size)
        first = (min(one[0], other[0]), min(one[1], other[1]))
        last = (min(max(one[0], other[0]), first[0] + 2), min(max(one[1], other[1]), first[1] + 1))
        return place_name(first) + ":" + place_name(last)

    def formula(self, size):
        one, other, third = self.reference(size), self.reference(size), self.reference(size)
        return self.chance.choice((
            one, one + "+1", one + "-" + other, one + "*" + other, one + "/" + other, one + "<" + other, "-" + one, "7",
            f"PICK({one},{other},{third})", f"SUM({self.area(size)})", f"COUNT({self.area(size)},{one})",
            f"MAX({self.area(size)},{other}*0)", f"{one}={one}", "999999999999*999999999999*999999999999", one + "*0", "#"))

    def content(self, size):
        kind = self.chance.random()
        if kind < 0.2:
            return None
        if kind < 0.5:
            return self.chance.choice((0, 1, 2, -1, 10 ** 30))
        return read_formula(self.formula(size))

    def deed(self, sheet):
        size = sheet[0]
        kind = self.chance.random()
        if kind < 0.6:
            return put, (self.place(size), self.content(size))
        if kind < 0.8:
            return copy, (self.place(size), self.place(size))
        axis = self.chance.choice((0, 1))
        if size[axis] < self.most[axis] and (kind < 0.9 or size[axis] < 4):
            return come, (axis, self.chance.randint(0, size[axis]), self.chance.randint(1, 2))
        many = self.chance.randint(1, min(2, size[axis] - 1))
        return go, (axis, self.chance.randint(0, size[axis] - many), many)


class WholeCase(unittest.TestCase):
    def assert_holds(self, sheet):
        """All that point 2 and point 71 say of a sheet."""
        size, contents, shown = sheet
        self.assertEqual(list(shown), sorted(contents))
        stuck = stuck_places(contents)
        self.assertEqual([place for place in shown if shown[place] == "ring"], stuck)
        for place, content in contents.items():
            self.assertTrue(inside(size, place))
            if not isinstance(content, tuple):
                self.assertEqual(repr(shown[place]), repr(content))
                continue
            self.assertTrue(all(inside(size, other) for other in meant(content)))
            if place in stuck:
                self.assert_ring(sheet, place)
            else:
                self.assertEqual(repr(shown[place]), repr(reckoned(content, shown)))
        self.assertEqual(repr(from_start(contents)), repr(shown))

    def assert_ring(self, sheet, place):
        ring = ring_at(sheet, place)
        self.assertEqual(ring[0], min(ring))
        self.assertEqual(len(ring), len(set(ring)))
        for one, other in zip(ring, ring[1:] + ring[:1]):
            self.assertIn(other, meant(sheet[1][one]))

    def assert_log(self, told, sheet, log):
        """That the log tells just the formulas that had to be reckoned, each with the place because of which."""
        size, contents, ahead, others = told
        shown, wanted = settled_plainly(contents, ahead, others)
        self.assertEqual(repr((size, shown, wanted)), repr((sheet[0], sheet[2], log)))
        self.assertEqual(repr(sorted(contents.items())), repr(sorted(sheet[1].items())))


class EveryDeed(WholeCase):
    def do_deeds(self, chance, sheet, many):
        for time in range(many):
            deed, told = chance.deed(sheet)
            kept = copying.deepcopy((sheet, told))
            behind, log = deed(sheet, *told)
            self.assertEqual(repr((sheet, told)), repr(kept))
            self.assert_log(PLAINLY[deed](sheet, *told), behind, log)
            self.assert_holds(behind)
            sheet = behind
        return sheet

    def test_many_short_rows_of_deeds(self):
        for number in range(60):
            self.do_deeds(Chance(number), opened(3, 3), 40)

    def test_a_long_row_of_deeds(self):
        self.do_deeds(Chance(1000, (12, 9)), opened(6, 5), 1200)

    def test_in_small_sheets_where_rings_are_many(self):
        for number in range(40):
            self.do_deeds(Chance(2000 + number, (3, 2)), opened(2, 2), 60)

    def test_the_same_contents_by_other_deeds(self):
        for number in range(40):
            chance = Chance(3000 + number)
            size, contents, shown = self.do_deeds(chance, opened(4, 4), 40)
            for time in range(3):
                sheet = opened(*size)
                for place in chance.chance.sample(sorted(contents), len(contents)):
                    # What stands there in between changes nothing in the end.
                    sheet = put(sheet, place, chance.content(size))[0]
                    sheet = put(sheet, place, contents[place])[0]
                self.assertEqual(sheet, (size, contents, shown))
                self.assertEqual(repr(sheet[2]), repr(shown))

    def test_earlier_sheets_stay(self):
        chance = Chance(4000)
        sheets = [opened(4, 4)]
        for time in range(150):
            deed, told = chance.deed(sheets[-1])
            sheets.append(deed(sheets[-1], *told)[0])
        again = Chance(4000)
        sheet = opened(4, 4)
        for kept in sheets[1:]:
            deed, told = again.deed(sheet)
            sheet = deed(sheet, *told)[0]
            self.assertEqual(repr(sheet[2]), repr(kept[2]))
            self.assertEqual(sheet, kept)


class References(WholeCase):
    def test_a_reference_that_was_moved_means_the_cell_that_it_meant(self):
        # Each cell has a number of its own, by which it is known wherever it comes to; one formula looks at each of them.
        for axis, at, many in ((0, 0, 1), (0, 2, 2), (0, 4, 1), (1, 0, 2), (1, 1, 1), (1, 2, 1)):
            cells = between((0, 0), (3, 1))
            sheet = opened(4, 4)
            for number, place in enumerate(cells, 100):
                sheet = put(sheet, place, number)[0]
                sheet = put(sheet, (place[0], place[1] + 2), read_formula(place_name(place)))[0]
            behind = come(sheet, axis, at, many)[0]
            for number, place in enumerate(cells, 100):
                looker = come_place((place[0], place[1] + 2), axis, at, many)
                self.assertEqual(value_at(behind, come_place(place, axis, at, many)), number)
                self.assertEqual(value_at(behind, looker), number)
                self.assertEqual(behind[1][looker][1], come_place(place, axis, at, many))
            self.assertEqual(go(behind, axis, at, many)[0], sheet)

    def test_what_went_is_gone(self):
        for axis, at, many in ((0, 0, 1), (0, 1, 2), (0, 3, 1), (1, 0, 1), (1, 1, 1)):
            sheet = opened(4, 4)
            for number, place in enumerate(between((0, 0), (3, 1)), 100):
                sheet = put(sheet, place, number)[0]
                sheet = put(sheet, (3 - place[0], 3 - place[1]), read_formula(place_name(place)))[0]
            behind = go(sheet, axis, at, many)[0]
            for number, place in enumerate(between((0, 0), (3, 1)), 100):
                looker = go_place((3 - place[0], 3 - place[1]), axis, at, many)
                if looker is not None:
                    went = go_place(place, axis, at, many) is None
                    self.assertEqual(value_at(behind, looker), "gone" if went else number)


class Desk(WholeCase):
    def row_of(self, deed, told):
        if deed == put:
            content = told[1]
            text = "" if content is None else " =" + formula_text(content) if isinstance(content, tuple) else f" {content}"
            return place_name(told[0]) + " :=" + text
        if deed == copy:
            return "copy " + place_name(told[0]) + " " + place_name(told[1])
        axis, at, many = told
        return f"{('rows', 'columns')[axis]} {deed.__name__} {at + 1} {many}"

    def asked(self, sheet, chance):
        """Rows of questions with their answers, by what the sheet's own functions tell."""
        place = chance.place((sheet[0][0] + 1, sheet[0][1] + 1))
        name = place_name(place)
        found = []
        for word, question in (("show", value_at), ("text", text_at), ("ring", ring_at)):
            try:
                told = question(sheet, place)
                answer = "<".join(place_name(one) for one in told) if word == "ring" else str(told)
                found.append((word + " " + name, "-" if told in (None, "") else answer))
            except SlateError as error:
                found.append((word + " " + name, "refused: " + type(error).__name__))
        return found

    def test_rows_answer_as_the_deeds_do(self):
        for number in range(25):
            chance = Chance(5000 + number)
            sheet = opened(5, 5)
            texts, answers = [], []
            for time in range(40):
                deed, told = chance.deed(sheet)
                before = sheet
                sheet, log = deed(sheet, *told)
                texts.append(self.row_of(deed, told))
                answers.append(" ".join(place_name(place) + "<" + place_name(why) for place, why in log) or "-")
                self.assertEqual(done(before, texts[-1]), (sheet, answers[-1]))
                for text, answer in self.asked(sheet, chance):
                    texts.append(text)
                    answers.append(answer)
            self.assertEqual(run(texts), answers)
            self.assertEqual(run(texts), answers)

    def test_rows_of_any_signs_answer_something(self):
        chance = random.Random(6000)
        pieces = ("A1", "B2", ":=", "=", " ", " ", "  ", "copy", "rows", "columns", "come", "go", "size", "show", "text", "ring",
                  "1", "2", "-", "0", "SUM(", "A1:B2", ")", "+", ",", "#", "\t", "\n", "Z99", "99", "PICK(", "$", "~")
        sheet = opened(5, 5)
        heads = ("A1 := =", "A1 := ", "B2 := =", "", "", "copy ", "rows ", "columns go ", "size ", "show ")
        for time in range(6000):
            text = chance.choice(heads) + "".join(chance.choice(pieces) for step in range(chance.randint(0, 6)))
            behind, answer = done(sheet, text)
            self.assertIsInstance(answer, str)
            self.assertNotEqual(answer, "")
            if answer.startswith("refused: "):
                self.assertEqual(behind, sheet)
            self.assert_holds(behind)
            sheet = behind


if __name__ == "__main__":
    unittest.main()
