"""Rows of the talk from a talk a to a talk b, and the steps that go on with them.

A step is a tuple (side, saying), where side 0 is a and side 1 is b; a row is a tuple of steps.
A moment is a tuple of three: what goes on in a, what goes on in b, and the sides that may be spoken on.
"""

from parleyhall.errors import NoRow

ONLY_B = (1,)
# The answerer alone may choose between the sides, so these also tell who is due.
BOTH_SIDES = (0, 1)


def first_moment(a, b):
    return (a, b, ONLY_B)


def steps_at(moment):
    found = []
    for side in moment[2]:
        found.extend([(side, saying) for saying in range(len(moment[side]))])
    return found


def moment_behind(moment, step):
    side = step[0]
    talks = [moment[0], moment[1]]
    talks[side] = talks[side][step[1]]
    # The asker has to answer where the answerer spoke.
    sides = (side,) if moment[2] == BOTH_SIDES else BOTH_SIDES
    return (talks[0], talks[1], sides)


def steps(a, b, row):
    moment = first_moment(a, b)
    for step in row:
        if step not in steps_at(moment):
            # Very long numbers can't be shown as texts: so the words name no step.
            raise NoRow("a step of the row does not go on with those ahead of it")
        moment = moment_behind(moment, step)
    return steps_at(moment)
