"""The copying manner, and two manners put together."""

from parleyhall.rows import first_moment, moment_behind, steps_at


def copying(talk):
    manner = {}
    copy_from(talk, 1, (), manner)
    return manner


# Whenever the asker is due, both sides stand at the same talk.
def copy_from(talk, side, row, manner):
    for saying, behind in enumerate(talk):
        asked_row = row + ((side, saying),)
        answer = (1 - side, saying)
        manner[asked_row] = answer
        copy_from(behind, 1 - side, asked_row + (answer,), manner)


def together(a, b, c, one, other):
    manner = {}
    answer_from(first_moment(a, c), (), (one, other), ((), ()), manner)
    return manner


# Puts into the manner what the two answer behind a row at whose end the asker is due;
# own_rows holds the row of each of the two by then.
def answer_from(moment, row, two, own_rows, manner):
    for step in steps_at(moment):
        rows_then = list(own_rows)
        answer = answer_of_two(two, rows_then, step)
        if answer is not None:
            asked_row = row + (step,)
            manner[asked_row] = answer
            behind = moment_behind(moment_behind(moment, step), answer)
            answer_from(behind, asked_row + (answer,), two, rows_then, manner)


# The first of the two has a as its side 0, the second has c as its side 1: so each one's place
# is the side that is heard from without, and b is its other side. The rows grow as they speak.
def answer_of_two(two, own_rows, step):
    place = step[0]
    heard = step
    while True:
        own_rows[place] = own_rows[place] + (heard,)
        answer = two[place].get(own_rows[place])
        if answer is None:
            return None
        own_rows[place] = own_rows[place] + (answer,)
        if answer[0] == place:
            return answer
        heard = (place, answer[1])
        place = 1 - place
