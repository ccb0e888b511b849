"""Talks: how many sayings they have, how they are written, and how they are read.

A talk is a tuple of talks, one for each saying that there is; () is a talk that is over.
"""

from parleyhall.errors import NotRead


# Talks may go some hundred sayings deep, more than a recursion may:
# so each function here keeps a list of what is still to be done instead.
def how_many_sayings(talk):
    found = 0
    waiting = [talk]
    while waiting:
        sayings = waiting.pop()
        found = found + len(sayings)
        waiting.extend(sayings)
    return found


def written(talk):
    signs = []
    # None waits where a talk that was begun is to be closed.
    waiting = [talk]
    while waiting:
        part = waiting.pop()
        if part is None:
            signs.append(")")
        else:
            signs.append("(")
            waiting.append(None)
            for behind in reversed(part):
                waiting.append(behind)
    return "".join(signs)


def read(text):
    # The first list takes the talks that stand within no other, so that two of them can be told from one.
    levels = [[]]
    for sign in text:
        if sign == "(":
            levels.append([])
        elif sign == ")" and len(levels) > 1:
            closed = tuple(levels.pop())
            levels[-1].append(closed)
        else:
            raise NotRead(f"this sign can't stand here in a talk: {sign!r}")
    if len(levels) > 1:
        raise NotRead(f"a bracket is not closed: {text!r}")
    if len(levels[0]) != 1:
        raise NotRead(f"not one talk: {text!r}")
    return levels[0][0]
