"""Tokens: how the text of a formula is cut, from the left."""

from slate.errors import BadFormula
from slate.places import FIGURES, LETTERS, is_name, place_of

BLANK = " "
MOST_FIGURES = 12
WORDS = ("SUM", "COUNT", "MAX", "PICK")
SIGNS = ("+", "-", "*", "/", "<", "=", "(", ")", ",", ":", "#")


def tokens(text):
    found = cut(text)
    last = found[-1]
    if last[0] == "none":
        raise BadFormula("what stands here is no token", last[2])
    return found


def cut(text):
    # What is no token is told as a last one of the kind "none" and not refused:
    # a token ahead of it that can't stand where it stands is refused first, by whoever reads on.
    found = []
    at = run_end(text, 0, BLANK)
    while at < len(text):
        end = piece_end(text, at)
        token = token_of(text[at:end], at)
        found.append(token)
        if token[0] == "none":
            return found
        at = run_end(text, end, BLANK)
    found.append(("end", "", len(text)))
    return found


def run_end(text, at, signs):
    end = at
    while end < len(text) and text[end] in signs:
        end += 1
    return end


def one_end(text, at, signs):
    if at < len(text) and text[at] in signs:
        return at + 1
    return at


def piece_end(text, at):
    if text[at] in SIGNS:
        return at + 1
    if text[at] in FIGURES:
        return run_end(text, at, FIGURES)
    end = run_end(text, at, LETTERS)
    if end - at > 1:
        return end
    return reference_end(text, at)


def reference_end(text, at):
    end = one_end(text, at, "$")
    end = one_end(text, end, LETTERS)
    end = one_end(text, end, "$")
    return run_end(text, end, FIGURES)


def token_of(piece, at):
    if piece in SIGNS:
        return ("sign", piece, at)
    if piece in WORDS:
        return ("word", piece, at)
    if is_number(piece, MOST_FIGURES):
        return ("num", int(piece), at)
    name = piece.replace("$", "")
    if is_name(name):
        return ("ref", ("ref", place_of(name), ("$" in piece[1:], piece[0] == "$")), at)
    return ("none", "", at)


def is_number(piece, most):
    # The length comes first: Python refuses to read a very long run of figures.
    if piece == "" or len(piece) > most:
        return False
    if piece[0] == "0" and piece != "0":
        return False
    return all([sign in FIGURES for sign in piece])
