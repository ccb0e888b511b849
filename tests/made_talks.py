"""Talks, rows and manners that the tests use.

But for the talks that are read and numbered_manners,
all is made straight from the document's words, without the program.
"""

import functools
import itertools

from parleyhall.manners import how_many, manner_at
from parleyhall.talks import read

ASKER = 0
ANSWERER = 1

# Talks at the edge of [2]: 12 sayings, at most 4 one behind the other.
TWELVE = (read("((((())(())(()))((()()))))"), read("((()(()()))(()(())())(()))"), read("((()())(()())(()()())(()))"))

# A pair of talks, with a manner from A to B that turns from side to side.
A = read("((()())(()))")
B = read("((()(()))()(()))")
MANNER = {
    ((1, 0),): (0, 0),
    ((1, 0), (0, 0), (0, 1)): (1, 1),
    ((1, 2),): (1, 0),
}


@functools.lru_cache(maxsize=None)
def talks_with(sayings):
    """All talks with just so many sayings, as a tuple."""
    if sayings == 0:
        return ((),)
    found = []
    for behind_first in range(sayings):
        for first in talks_with(behind_first):
            for others in talks_with(sayings - 1 - behind_first):
                found.append((first,) + others)
    return tuple(found)


def talks_up_to(sayings):
    """All talks with at most so many sayings."""
    return [talk for many in range(sayings + 1) for talk in talks_with(many)]


def deep(sayings):
    """So many sayings, all one behind the other."""
    talk = ()
    for _ in range(sayings):
        talk = (talk,)
    return talk


def broad(sayings):
    """So many sayings, none behind another."""
    return ((),) * sayings


def comb(teeth):
    """A line of talks, each with a saying that ends it ahead of the one that goes on: 2 * teeth sayings."""
    talk = ()
    for _ in range(teeth):
        talk = ((), talk)
    return talk


def bush(width, depth):
    """Everywhere the same number of sayings, down to a depth."""
    talk = ()
    for _ in range(depth):
        talk = (talk,) * width
    return talk


def is_of_tuples(talk):
    """Whether nothing but tuples stands in it."""
    waiting = [talk]
    while waiting:
        part = waiting.pop()
        if type(part) is not tuple:
            return False
        waiting.extend(part)
    return True


def said_on(row, side):
    return [step[1] for step in row if step[0] == side]


def speaker_due_on(row, side):
    """Who is due in one talk alone: the asker begins in b, the answerer in a."""
    begins = ASKER if side == 1 else ANSWERER
    return (begins + len(said_on(row, side))) % 2


def steps_by_turns(a, b, row):
    """The steps told another way: the one who is due speaks wherever it is that one's turn in the talk itself."""
    found = []
    for side, talk in ((0, a), (1, b)):
        if speaker_due_on(row, side) == len(row) % 2:
            for saying in said_on(row, side):
                talk = talk[saying]
            found += [(side, saying) for saying in range(len(talk))]
    return found


def all_rows(a, b):
    """All rows of the talk from a to b, the empty one first."""
    rows = [()]
    for row in rows:
        rows += [row + (step,) for step in steps_by_turns(a, b, row)]
    return rows


def all_manners(a, b, row=()):
    """All manners for what follows a row at whose end the asker is due, in the order of their numbers."""
    choices = []
    for step in steps_by_turns(a, b, row):
        asked = row + (step,)
        choices.append([{}])
        for answer in steps_by_turns(a, b, asked):
            choices[-1] += [{asked: answer, **behind} for behind in all_manners(a, b, asked + (answer,))]
    # The product's first part changes last, and so counts most.
    return [dict(pair for part in chosen for pair in part.items()) for chosen in itertools.product(*choices)]


def keeps_to(manner, row):
    """Whether each step of the answerer in a row is the one that the manner gives the part ahead of it."""
    return all(manner.get(row[:place]) == row[place] for place in range(1, len(row), 2))


def asked_rows(a, b):
    return [row for row in all_rows(a, b) if len(row) % 2 == 1]


def rows_that_come_up(a, b, manner):
    return sorted(row for row in asked_rows(a, b) if keeps_to(manner, row))


def is_manner_by_its_words(a, b, manner):
    asked = set(asked_rows(a, b))
    return all(
        row in asked and answer in steps_by_turns(a, b, row) and keeps_to(manner, row)
        for row, answer in manner.items()
    )


def spread_evenly(many, most):
    """At most so many of the numbers below many, the first and the last among them."""
    if many <= most:
        return list(range(many))
    return [place * (many - 1) // (most - 1) for place in range(most)]


def some_of(manners, most):
    return [manners[place] for place in spread_evenly(len(manners), most)]


def numbered_manners(a, b, most):
    """At most so many manners from a to b, spread evenly over their numbers, the first and the last among them."""
    return [manner_at(a, b, number) for number in spread_evenly(how_many(a, b), most)]
