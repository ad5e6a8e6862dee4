"""Reading: the tree of a formula's text."""

from slate.errors import BadFormula, TooGreat
from slate.signs import cut
from slate.trees import STRENGTHS, deep, leaves, strength

MOST_SIGNS = 6000
MOST_DEEP = 12
MOST_LEAVES = 60
OVER_WORDS = ("SUM", "COUNT", "MAX")
# By what is opened: "" is the whole text, "(" a bracket.
MOST_PARTS = {"": 1, "(": 1, "PICK": 3, "SUM": 8, "COUNT": 8, "MAX": 8}


class Opened:
    # What is opened and not closed yet: done are its parts behind which a comma stood, waiting are the minuses and
    # twos of the part being read that lack their last part.
    def __init__(self, word):
        self.word = word
        self.done = []
        self.waiting = []


def read_formula(text):
    if len(text) > MOST_SIGNS:
        raise TooGreat("a formula has at most 6000 signs")
    tree = tree_of(cut(text))
    if deep(tree) > MOST_DEEP or leaves(tree) > MOST_LEAVES:
        raise TooGreat("a formula is at most 12 deep and has at most 60 leaves")
    return tree


def tree_of(found):
    # What is opened is kept in a list and not in calls: a text may open thousands in one another.
    rest = list(reversed(found))
    opened = [Opened("")]
    tree = read_leaf(rest, opened)
    while opened:
        token = rest.pop()
        if closes(token, opened[-1]):
            tree = closed(opened.pop(), tree)
        else:
            go_on(token, opened[-1], tree)
            tree = read_leaf(rest, opened)
    return tree


def refuse(token):
    raise BadFormula("this can't stand here, or the text ends too early", token[2])


def is_sign(token, sign):
    return token[0] == "sign" and token[1] == sign


def read_leaf(rest, opened):
    token = rest.pop()
    while opens(token, rest, opened):
        token = rest.pop()
    if token[0] == "num":
        return ("num", token[1])
    if token[0] == "ref":
        return read_reference(token[1], rest, opened[-1])
    if not is_sign(token, "#"):
        refuse(token)
    return ("gone",)


def opens(token, rest, opened):
    # Whether a leaf is still to come behind this token: what it opens, or that a minus waits, is kept in opened.
    if token[0] == "word":
        bracket = rest.pop()
        if not is_sign(bracket, "("):
            refuse(bracket)
        opened.append(Opened(token[1]))
        return True
    if is_sign(token, "("):
        opened.append(Opened("("))
        return True
    if is_sign(token, "-"):
        opened[-1].waiting.append(("minus",))
        return True
    return False


def read_reference(first, rest, inner):
    begins_a_part = inner.word in OVER_WORDS and not inner.waiting
    if not begins_a_part or not is_sign(rest[-1], ":"):
        return first
    rest.pop()
    token = rest.pop()
    if token[0] != "ref" or is_turned(first, token[1]):
        refuse(token)
    return ("area", first, token[1])


def is_turned(first, last):
    return first[1][0] > last[1][0] or first[1][1] > last[1][1]


def closes(token, inner):
    if inner.word == "":
        return token[0] == "end"
    if inner.word == "PICK" and len(inner.done) + 1 < MOST_PARTS["PICK"]:
        return False
    return is_sign(token, ")")


def closed(inner, tree):
    whole = joined(inner.waiting, tree, 1)
    if inner.word == "PICK":
        return ("pick", inner.done[0], inner.done[1], whole)
    if inner.word in OVER_WORDS:
        return ("over", inner.word, inner.done + [whole])
    return whole


def joined(waiting, tree, least):
    # All that wait and bind at least so strongly get their last part, the last one first: so signs of one strength
    # are read from the left.
    while waiting and strength(waiting[-1]) >= least:
        tree = waiting.pop() + (tree,)
    return tree


def go_on(token, inner, tree):
    if is_sign(token, ",") and len(inner.done) + 1 < MOST_PARTS[inner.word]:
        inner.done.append(joined(inner.waiting, tree, 1))
    elif token[0] == "sign" and token[1] in STRENGTHS and tree[0] != "area":
        inner.waiting.append(("two", token[1], joined(inner.waiting, tree, STRENGTHS[token[1]])))
    else:
        refuse(token)
