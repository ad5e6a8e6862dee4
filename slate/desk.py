"""The desk: rows of text are done over a sheet, and each answers a text."""

from slate.deeds import copy, put
from slate.errors import BadFormula, BadPlace, BadRow, BadSize, BadSpan, NoRing, Outside, TooGreat
from slate.places import place_name
from slate.rows import read_row
from slate.sheets import opened, ring_at, text_at, value_at
from slate.spans import come, go

NOTHING = "-"


def run(texts):
    sheet = opened(5, 5)
    answers = []
    for text in texts:
        found = done(sheet, text)
        sheet = found[0]
        answers.append(found[1])
    return answers


def done(sheet, text):
    # One by one: an error does not tell its class's name.
    try:
        return answered(sheet, read_row(text))
    except BadPlace:
        name = "BadPlace"
    except BadFormula:
        name = "BadFormula"
    except TooGreat:
        name = "TooGreat"
    except NoRing:
        name = "NoRing"
    except BadSize:
        name = "BadSize"
    except Outside:
        name = "Outside"
    except BadSpan:
        name = "BadSpan"
    except BadRow:
        name = "BadRow"
    return (sheet, "refused: " + name)


def answered(sheet, row):
    if row[0] == "size":
        return (opened(row[1], row[2]), "done")
    if row[0] == "show":
        return (sheet, value_text(value_at(sheet, row[1])))
    if row[0] == "text":
        return (sheet, text_at(sheet, row[1]) or NOTHING)
    if row[0] == "ring":
        return (sheet, "<".join([place_name(place) for place in ring_at(sheet, row[1])]))
    found = deed(sheet, row)
    return (found[0], log_text(found[1]))


def deed(sheet, row):
    if row[0] == "put":
        return put(sheet, row[1], row[2])
    if row[0] == "copy":
        return copy(sheet, row[1], row[2])
    if row[0] == "come":
        return come(sheet, row[1], row[2], row[3])
    return go(sheet, row[1], row[2], row[3])


def value_text(value):
    return NOTHING if value is None else str(value)


def log_text(log):
    return " ".join([place_name(pair[0]) + "<" + place_name(pair[1]) for pair in log]) or NOTHING
