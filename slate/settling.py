"""Settling: what all contents show behind a deed, and which formulas had to be reckoned for it."""

from slate.leaning import sorted_out
from slate.places import MOST_COLUMNS, MOST_ROWS, inside, marked
from slate.reckoning import reckoned
from slate.trees import meant


def is_formula(content):
    return isinstance(content, tuple)


def leans_of(contents):
    leans = {}
    for place in sorted(contents):
        if is_formula(contents[place]):
            leans[place] = meant(contents[place])
    return leans


def settled(contents, ahead, others):
    leans = leans_of(contents)
    found = sorted_out(leans)
    showed = showed_ahead(contents, ahead)
    given = marked(others)
    shown = shown_at_first(contents, found[1])
    log = []
    for place in found[0]:
        why = why_reckoned(place, leans[place], given, showed, shown)
        if why is None:
            shown[place] = showed.get(place)
        else:
            shown[place] = reckoned(contents[place], shown)
            log.append((place, why))
    return (shown, log)


def from_start(contents):
    return settled(contents, {}, list(leans_of(contents)))[0]


def showed_ahead(contents, ahead):
    # What is told of a pair that is no place changes nothing; one that has a content all the same is taken for a place.
    showed = {}
    for place in ahead:
        if place in contents or inside((MOST_ROWS, MOST_COLUMNS), place):
            showed[place] = ahead[place]
    return showed


def shown_at_first(contents, nexts):
    # A formula that is not stuck gets its value later; its key stands here already, so that the keys are in order.
    shown = {}
    for place in sorted(contents):
        content = contents[place]
        if not is_formula(content):
            shown[place] = content
        elif place in nexts:
            shown[place] = "ring"
        else:
            shown[place] = None
    return shown


def why_reckoned(place, leant, given, showed, shown):
    if place in given or showed.get(place) == "ring":
        return place
    # In order: the first one that shows other is the least one.
    for other in leant:
        if shown.get(other) != showed.get(other):
            return other
    return None
