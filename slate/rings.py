"""Rings: those that come again and again where one follows from next to next."""

from slate.errors import NoRing


def ring_of(nexts, place):
    if place not in nexts:
        raise NoRing("what stands there is not stuck")
    # The last one ahead of one that comes again is itself on the ring, wherever one begins.
    last = followed(nexts, place)[-1]
    return followed(nexts, min(followed(nexts, last)))


def followed(nexts, place):
    found = {}
    while place not in found:
        found[place] = True
        place = nexts[place]
    return list(found)
