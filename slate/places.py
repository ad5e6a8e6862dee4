"""Places: pairs (row, column), their names, and which of them lie where."""

from slate.errors import BadPlace

MOST_ROWS = 99
MOST_COLUMNS = 26
LETTERS = "ABCDEFGHIJKLMNOPQRSTUVWXYZ"
FIGURES = "0123456789"


def place_name(place):
    if not inside((MOST_ROWS, MOST_COLUMNS), place):
        # The numbers stay out of the words: Python refuses to write out a very long one.
        raise BadPlace("a row is from 0 to 98 and a column from 0 to 25")
    return LETTERS[place[1]] + str(place[0] + 1)


def place_of(name):
    if not is_name(name):
        raise BadPlace(f"{name!r} is no name of a place")
    return (int(name[1:]) - 1, LETTERS.index(name[0]))


def is_name(text):
    # The length comes first: the signs below are there to be looked at only then.
    if len(text) not in (2, 3):
        return False
    if text[0] not in LETTERS or text[1] == "0":
        return False
    return all([sign in FIGURES for sign in text[1:]])


def inside(size, place):
    return 0 <= place[0] < size[0] and 0 <= place[1] < size[1]


def between(first, last):
    found = []
    if first[1] > last[1]:
        # However many rows there are, none of them is walked in vain.
        return found
    for row in range(first[0], last[0] + 1):
        for column in range(first[1], last[1] + 1):
            found.append((row, column))
    return found


def in_order(places):
    return sorted(set(places))


def marked(places):
    # Asked with `in`: of a list, each asking would walk what may be a whole sheet.
    found = {}
    for place in places:
        found[place] = True
    return found
