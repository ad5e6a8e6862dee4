"""Values: numbers within the bound, troubles and None, and how they are put together."""

TROUBLES = ("gone", "nought", "great", "ring")


def is_trouble(value):
    return value in TROUBLES


def bounded(number):
    if abs(number) > 10 ** 30:
        return "great"
    return number


def put_together(sign, one, other):
    if is_trouble(one):
        return one
    if is_trouble(other):
        return other
    if sign == "/" and other == 0:
        return "nought"
    return bounded(number_of(sign, one, other))


def number_of(sign, one, other):
    if sign == "+":
        return one + other
    if sign == "-":
        return one - other
    if sign == "*":
        return one * other
    if sign == "/":
        return one // other
    if sign == "<":
        return 1 if one < other else 0
    return 1 if one == other else 0


def gathered(word, values):
    troubles = [value for value in values if is_trouble(value)]
    if troubles:
        return troubles[0]
    numbers = [value for value in values if value is not None]
    if word == "COUNT":
        return len(numbers)
    if word == "SUM":
        return bounded(sum(numbers))
    return bounded(max(numbers, default=0))
