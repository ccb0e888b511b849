"""Talks that the tests use."""

import functools


@functools.lru_cache(maxsize=None)
def talks_with(sayings):
    """All talks with just so many sayings, as a tuple."""
    if sayings == 0:
        return ((),)
    found = []
    for behind_first in range(sayings):
        for first in talks_with(behind_first):
            for others in talks_with(sayings - 1 - behind_first):
                found.append((first,) + others)
    return tuple(found)


def talks_up_to(sayings):
    """All talks with at most so many sayings."""
    return [talk for many in range(sayings + 1) for talk in talks_with(many)]


def deep(sayings):
    """So many sayings, all one behind the other."""
    talk = ()
    for _ in range(sayings):
        talk = (talk,)
    return talk


def broad(sayings):
    """So many sayings, none behind another."""
    return ((),) * sayings


def comb(teeth):
    """A line of talks, each with a saying that ends it ahead of the one that goes on: 2 * teeth sayings."""
    talk = ()
    for _ in range(teeth):
        talk = ((), talk)
    return talk


def bush(width, depth):
    """Everywhere the same number of sayings, down to a depth."""
    talk = ()
    for _ in range(depth):
        talk = (talk,) * width
    return talk


def is_of_tuples(talk):
    """Whether nothing but tuples stands in it."""
    waiting = [talk]
    while waiting:
        part = waiting.pop()
        if type(part) is not tuple:
            return False
        waiting.extend(part)
    return True
