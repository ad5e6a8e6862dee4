"""Rows: what a row of text tells the desk to do."""

from slate.errors import BadRow
from slate.places import is_name, place_of
from slate.reading import read_formula
from slate.signs import is_number

MOST_FIGURES = 40
QUESTIONS = ("show", "text", "ring")
AXES = ("rows", "columns")
WAYS = ("come", "go")


def read_row(text):
    # Only the first two blanks part words here: a formula's blanks are its own.
    words = text.split(" ", 2)
    if words[1:2] == [":="]:
        return ("put", read_place(words[0]), read_content(words[2:]))
    return read_words(text.split(" "))


def read_words(words):
    first = words[0]
    if first in QUESTIONS and len(words) == 2:
        return (first, read_place(words[1]))
    if first == "copy" and len(words) == 3:
        return ("copy", read_place(words[1]), read_place(words[2]))
    if first == "size" and len(words) == 3:
        return ("size", read_number(words[1]), read_number(words[2]))
    if first in AXES and len(words) == 4 and words[1] in WAYS:
        return (words[1], AXES.index(first), read_number(words[2]) - 1, read_number(words[3]))
    raise BadRow("this is none of the rows that can be done")


def read_place(word):
    if not is_name(word):
        raise BadRow("a name of a place is asked for")
    return place_of(word)


def read_number(word):
    if not is_number(word, MOST_FIGURES):
        raise BadRow("a number is asked for")
    return int(word)


def read_content(rest):
    if not rest:
        return None
    text = rest[0]
    if text.startswith("="):
        return read_formula(text[1:])
    # A -0 is left to read_number, which takes no - at all.
    if text.startswith("-") and text != "-0":
        return 0 - read_number(text[1:])
    return read_number(text)
