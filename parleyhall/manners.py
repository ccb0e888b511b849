"""Manners of answering in the talk from a talk a to a talk b, and their numbers.

A manner is a dict from asked rows to steps of the answerer.
"""

from parleyhall.errors import NoNumber
from parleyhall.rows import first_moment, moment_behind, steps_at


# Each row that comes up behind a row at whose end the asker is due, with whether the manner answers it
# by a step that goes on. A row comes ahead of those that begin with it, so they are in the order of tuples.
def walked(moment, row, manner):
    found = []
    for step in steps_at(moment):
        asked_row = row + (step,)
        asked = moment_behind(moment, step)
        answer = manner.get(asked_row)
        is_answered = answer in steps_at(asked)
        found.append((asked_row, is_answered))
        if is_answered:
            found.extend(walked(moment_behind(asked, answer), asked_row + (answer,), manner))
    return found


def comes_up(a, b, manner):
    return [row for row, is_answered in walked(first_moment(a, b), (), manner)]


def is_manner(a, b, manner):
    # What the walk does not meet can't come up, or has a step that does not go on.
    met = [row for row, is_answered in walked(first_moment(a, b), (), manner) if is_answered]
    return len(met) == len(manner)


# How many manners there are from a moment on at which the asker is due.
# Many rows lead to the same moment: known keeps what was counted.
def count_from(moment, known):
    if moment not in known:
        found = 1
        for step in steps_at(moment):
            found = found * count_choices(moment_behind(moment, step), known)
        known[moment] = found
    return known[moment]


def count_behind(asked, answers, known):
    return sum([count_from(moment_behind(asked, answer), known) for answer in answers])


def count_choices(asked, known):
    # Silence is the one choice that is no step.
    return 1 + count_behind(asked, steps_at(asked), known)


def how_many(a, b):
    return count_from(first_moment(a, b), {})


def manner_at(a, b, number):
    known = {}
    moment = first_moment(a, b)
    if number < 0 or number >= count_from(moment, known):
        # Very long numbers can't be shown as texts: so the words name none.
        raise NoNumber("no manner has this number")
    manner = {}
    choose_all(moment, (), number, known, manner)
    return manner


# Puts into the manner what the number chooses behind each of the asker's steps.
def choose_all(moment, row, number, known, manner):
    left = number
    # The first step counts most, and so the last one's choice is what remains.
    for step in reversed(steps_at(moment)):
        asked = moment_behind(moment, step)
        choices = count_choices(asked, known)
        choose_answer(asked, row + (step,), left % choices, known, manner)
        left = left // choices


def choose_answer(asked, row, number, known, manner):
    if number == 0:
        return
    left = number - 1
    for answer in steps_at(asked):
        behind = moment_behind(asked, answer)
        if left < count_from(behind, known):
            manner[row] = answer
            choose_all(behind, row + (answer,), left, known, manner)
            return
        left = left - count_from(behind, known)


def number_of(a, b, manner):
    return number_from(first_moment(a, b), (), manner, {})


def number_from(moment, row, manner, known):
    number = 0
    for step in steps_at(moment):
        asked = moment_behind(moment, step)
        number = number * count_choices(asked, known) + number_of_choice(asked, row + (step,), manner, known)
    return number


def number_of_choice(asked, row, manner, known):
    answer = manner.get(row)
    if answer is None:
        return 0
    ahead = [step for step in steps_at(asked) if step < answer]
    behind = moment_behind(asked, answer)
    return 1 + count_behind(asked, ahead, known) + number_from(behind, row + (answer,), manner, known)
