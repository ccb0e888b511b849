"""Talks made of talks, and manners carried from one such talk to another."""

from parleyhall.rows import first_moment, moment_behind, steps_at

# Of three talks a, b and c, by their places 0, 1 and 2: which of them stand on side 0 and which on side 1
# from a and b beside one another to c, and from a to the talk from b to c.
SIDES_BESIDE = ((0, 1), (2,))
SIDES_FROM_TO = ((0,), (1, 2))
PLACE_OF_C = 2


def from_to(a, b):
    return talk_at(first_moment(a, b), {})


# Many rows lead to the same moment: known keeps the talks that were made.
def talk_at(moment, known):
    if moment not in known:
        known[moment] = tuple([talk_at(moment_behind(moment, step), known) for step in steps_at(moment)])
    return known[moment]


def beside(a, b):
    return talk_beside(a, b, {})


# The answerer has to answer on the same side, so it is the asker's turn on both sides again behind each answer.
def talk_beside(a, b, known):
    if (a, b) not in known:
        sayings = []
        for answers in a:
            sayings.append(tuple([talk_beside(then, b, known) for then in answers]))
        for answers in b:
            sayings.append(tuple([talk_beside(a, then, known) for then in answers]))
        known[(a, b)] = tuple(sayings)
    return known[(a, b)]


def gathered(a, b, c, manner):
    return manner_carried((a, b, c), manner, SIDES_BESIDE, SIDES_FROM_TO)


def spread(a, b, c, manner):
    return manner_carried((a, b, c), manner, SIDES_FROM_TO, SIDES_BESIDE)


def manner_carried(talks, manner, old_sides, new_sides):
    found = {}
    for row, answer in manner.items():
        carried = row_carried(talks, row + (answer,), old_sides, new_sides)
        found[carried[:-1]] = carried[-1]
    return found


def row_carried(talks, row, old_sides, new_sides):
    now = list(talks)
    # The asker answers in the very talk in which the answerer spoke last, and begins in c.
    place = PLACE_OF_C
    carried = []
    for number, step in enumerate(row):
        saying = step[1]
        if number % 2 == 0:
            carried.append((side_of(new_sides, place), saying))
        else:
            spoken = talk_and_saying(now, old_sides, step)
            place = spoken[0]
            saying = spoken[1]
            carried.append(answer_to(now, new_sides, place, saying))
        now[place] = now[place][saying]
    return tuple(carried)


def side_of(sides, place):
    return 0 if place in sides[0] else 1


# The answerer may go on with each talk of a side: there the sayings of the first are followed by those of the second.
def talk_and_saying(now, sides, step):
    left = step[1]
    place = sides[step[0]][0]
    while left >= len(now[place]):
        left = left - len(now[place])
        place = place + 1
    return (place, left)


def answer_to(now, sides, place, saying):
    side = side_of(sides, place)
    ahead = sum([len(now[other]) for other in sides[side] if other < place])
    return (side, ahead + saying)
