"""Marks: the newest number of a goal that was used, and the least length with it."""


def better(one, other):
    if one[0] != other[0]:
        return one[0] > other[0]
    return one[1] < other[1]


def may_use(mark, number, far):
    if far is None:
        return False
    return mark is None or better((number, far), mark)


def bettered(mark, number, length):
    if mark is None or number > mark[0]:
        return (number, length)
    return (number, min(mark[1], length))
