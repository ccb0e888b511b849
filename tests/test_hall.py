"""The interface of parleyhall/hall.py, with points [1], [4] and [6]."""

import inspect
import itertools
import unittest

from made_talks import (
    A, B, MANNER, TWELVE, broad, deep, numbered_manners, rows_that_come_up, steps_by_turns, talks_up_to,
)
from parleyhall.errors import NoStep, Over
from parleyhall.hall import Hall
from parleyhall.making import from_to
from parleyhall.together import copying

# Steps of all kinds, among them such as go on nowhere.
GRID = [(side, saying) for side in range(-2, 4) for saying in range(-3, 5)] + [(1, 10 ** 5000), (-(10 ** 5000), 0)]


def hall_at(a, b, manner, row):
    """A hall in which the asker has said the asker's steps of a row that comes up."""
    hall = Hall(a, b, manner)
    for step in row[::2]:
        hall.hear(step)
    return hall


class Arguments(unittest.TestCase):
    def test_names(self):
        self.assertEqual(list(inspect.signature(Hall).parameters), ["a", "b", "manner"])
        self.assertEqual(list(inspect.signature(Hall.hear).parameters), ["self", "step"])
        self.assertEqual(list(inspect.signature(Hall.said).parameters), ["self"])
        self.assertEqual(list(inspect.signature(Hall.due).parameters), ["self"])

    def test_by_name(self):
        hall = Hall(manner=MANNER, b=B, a=A)
        self.assertEqual(hall.hear(step=(1, 2)), (1, 0))

    def test_a_plain_class(self):
        self.assertIs(type(Hall), type)
        self.assertEqual(Hall.__bases__, (object,))


class ATalk(unittest.TestCase):
    def test_nothing_said_yet(self):
        hall = Hall(A, B, MANNER)
        self.assertEqual(hall.said(), [])
        self.assertEqual(hall.due(), [(1, 0), (1, 1), (1, 2)])

    def test_from_side_to_side_until_silence(self):
        hall = Hall(A, B, MANNER)
        self.assertEqual(hall.hear((1, 0)), (0, 0))
        self.assertEqual(hall.said(), [(1, 0), (0, 0)])
        self.assertEqual(hall.due(), [(0, 0), (0, 1)])
        self.assertEqual(hall.hear((0, 1)), (1, 1))
        self.assertEqual(hall.said(), [(1, 0), (0, 0), (0, 1), (1, 1)])
        self.assertEqual(hall.due(), [(1, 0)])
        self.assertIsNone(hall.hear((1, 0)))
        self.assertEqual(hall.said(), [(1, 0), (0, 0), (0, 1), (1, 1), (1, 0)])
        self.assertEqual(hall.due(), [])

    def test_silence_at_once(self):
        hall = Hall(A, B, MANNER)
        self.assertIsNone(hall.hear((1, 1)))
        self.assertEqual(hall.said(), [(1, 1)])
        self.assertEqual(hall.due(), [])

    def test_silence_though_there_is_more_to_say(self):
        hall = Hall(deep(6), deep(6), {})
        self.assertIsNone(hall.hear((1, 0)))
        self.assertEqual(hall.due(), [])

    def test_two_halls_do_not_hear_one_another(self):
        one = Hall(A, B, MANNER)
        other = Hall(A, B, MANNER)
        one.hear((1, 1))
        self.assertEqual(other.said(), [])
        self.assertEqual(other.hear((1, 0)), (0, 0))
        self.assertEqual(one.said(), [(1, 1)])

    def test_talks_that_are_over(self):
        for a in ((), broad(3), deep(4)):
            hall = Hall(a, (), {})
            self.assertEqual(hall.said(), [])
            self.assertEqual(hall.due(), [])
            self.assertRaises(NoStep, hall.hear, (1, 0))
            self.assertRaises(NoStep, hall.hear, (0, 0))

    def check_each_moment(self, a, b, manner):
        for row in rows_that_come_up(a, b, manner):
            hall = hall_at(a, b, manner, row[:-1])
            self.assertEqual(hall.said(), list(row[:-1]))
            self.assertEqual(hall.due(), steps_by_turns(a, b, row[:-1]))
            answer = hall.hear(row[-1])
            self.assertEqual(answer, manner.get(row))
            if answer is None:
                self.assertEqual(hall.said(), list(row))
                self.assertEqual(hall.due(), [])
            else:
                self.assertEqual(hall.said(), list(row) + [answer])
                self.assertEqual(hall.due(), steps_by_turns(a, b, row + (answer,)))

    def test_each_moment_of_small_talks(self):
        for a, b in itertools.product(talks_up_to(3), talks_up_to(4)):
            for manner in numbered_manners(a, b, 15):
                self.check_each_moment(a, b, manner)

    def test_each_moment_of_large_talks(self):
        a, b, c = TWELVE
        for one, other in ((a, b), (b, c), (c, a)):
            for manner in numbered_manners(one, other, 5):
                self.check_each_moment(one, other, manner)
        self.check_each_moment(from_to(a, b), from_to(a, b), copying(from_to(a, b)))


class Refused(unittest.TestCase):
    def refuse(self, error, hall, step):
        said = hall.said()
        due = hall.due()
        with self.assertRaises(error) as taken:
            hall.hear(step)
        self.assertIs(type(taken.exception), error)
        self.assertEqual(hall.said(), said)
        self.assertEqual(hall.due(), due)

    def test_a_step_that_does_not_go_on(self):
        for row in ((), ((1, 0), (0, 0)), ((1, 0), (0, 0), (0, 1), (1, 1)), ((1, 2), (1, 0))):
            for step in GRID:
                with self.subTest(row=row, step=step[0] if abs(step[0]) < 10 else "far"):
                    if step not in steps_by_turns(A, B, row):
                        self.refuse(NoStep, hall_at(A, B, MANNER, row), step)

    def test_a_step_of_the_answerer(self):
        hall = Hall(A, B, MANNER)
        self.refuse(NoStep, hall, (0, 0))

    def test_nothing_left_to_say_is_not_silence(self):
        hall = hall_at(A, B, MANNER, ((1, 2), (1, 0)))
        self.assertEqual(hall.due(), [])
        self.refuse(NoStep, hall, (1, 0))
        self.refuse(NoStep, hall, (0, 0))

    def test_what_is_refused_changes_nothing(self):
        hall = Hall(A, B, MANNER)
        for step in ((1, 3), (0, 0), (1, -1), (2, 0)):
            self.refuse(NoStep, hall, step)
        self.assertEqual(hall.hear((1, 0)), (0, 0))
        for step in ((1, 0), (0, 2), (0, -1)):
            self.refuse(NoStep, hall, step)
        self.assertEqual(hall.hear((0, 1)), (1, 1))
        self.refuse(NoStep, hall, (0, 0))
        self.assertIsNone(hall.hear((1, 0)))
        for step in ((1, 0), (0, 0), (5, 5)):
            self.refuse(Over, hall, step)
        self.assertEqual(hall.said(), [(1, 0), (0, 0), (0, 1), (1, 1), (1, 0)])

    def test_over_for_each_step_ahead_of_no_step(self):
        for row in (((1, 1),), ((1, 0), (0, 0), (0, 0)), ((1, 0), (0, 0), (0, 1), (1, 1), (1, 0))):
            hall = hall_at(A, B, MANNER, row)
            self.assertEqual(hall.said(), list(row))
            for step in GRID + GRID:
                self.refuse(Over, hall, step)

    def test_over_also_for_steps_that_the_answerer_could_have_said(self):
        hall = Hall(deep(4), deep(4), {})
        hall.hear((1, 0))
        self.refuse(Over, hall, (0, 0))
        self.refuse(Over, hall, (1, 0))

    def test_every_step_at_every_moment_of_small_talks(self):
        for a, b in itertools.product(talks_up_to(2), talks_up_to(3)):
            for manner in numbered_manners(a, b, 6):
                for row in rows_that_come_up(a, b, manner):
                    for step in GRID[:-2]:
                        self.check_step(a, b, manner, row, step)

    def check_step(self, a, b, manner, row, step):
        hall = hall_at(a, b, manner, row[:-1])
        if step not in steps_by_turns(a, b, row[:-1]):
            self.refuse(NoStep, hall, step)
        hall.hear(row[-1])
        if row not in manner:
            self.refuse(Over, hall, step)


class NothingKept(unittest.TestCase):
    def test_a_manner_that_is_changed_later(self):
        manner = dict(MANNER)
        hall = Hall(A, B, manner)
        manner.clear()
        self.assertEqual(hall.hear((1, 0)), (0, 0))
        manner[((1, 0), (0, 0), (0, 1))] = (0, 0)
        self.assertEqual(hall.hear((0, 1)), (1, 1))
        manner[((1, 0), (0, 0), (0, 1), (1, 1), (1, 0))] = (0, 0)
        self.assertIsNone(hall.hear((1, 0)))

    def test_a_manner_that_is_filled_later(self):
        manner = {}
        hall = Hall(A, B, manner)
        manner.update(MANNER)
        self.assertIsNone(hall.hear((1, 0)))

    def test_the_manner_is_not_changed(self):
        manner = dict(MANNER)
        hall = Hall(A, B, manner)
        hall.hear((1, 0))
        hall.hear((0, 0))
        self.assertRaises(Over, hall.hear, (0, 0))
        self.assertEqual(manner, MANNER)
        self.assertEqual(list(manner), list(MANNER))

    def test_one_manner_for_two_halls(self):
        manner = dict(MANNER)
        one = Hall(A, B, manner)
        one.hear((1, 0))
        other = Hall(A, B, manner)
        manner.clear()
        self.assertEqual(other.hear((1, 2)), (1, 0))
        self.assertEqual(one.hear((0, 1)), (1, 1))

    def test_what_is_told_may_be_changed(self):
        hall = Hall(A, B, MANNER)
        for step in ((1, 0), (0, 1), (1, 0)):
            said = list(hall.said())
            due = list(hall.due())
            hall.said().append((7, 7))
            hall.said().clear()
            hall.due().append((7, 7))
            hall.due().clear()
            self.assertEqual(hall.said(), said)
            self.assertEqual(hall.due(), due)
            self.assertIn(step, due)
            hall.hear(step)
        hall.due().append((1, 0))
        self.assertEqual(hall.due(), [])
        self.assertRaises(Over, hall.hear, (1, 0))

    def test_no_two_lists_are_one(self):
        hall = Hall(A, B, MANNER)
        for step in ((1, 0), (0, 0)):
            told = [hall.said(), hall.said(), hall.due(), hall.due()]
            for one, other in itertools.combinations(told, 2):
                self.assertIsNot(one, other)
            hall.hear(step)
        self.assertIsNot(hall.due(), hall.due())

    def test_a_list_told_earlier_does_not_grow(self):
        hall = Hall(A, B, MANNER)
        said = hall.said()
        due = hall.due()
        hall.hear((1, 0))
        self.assertEqual(said, [])
        self.assertEqual(due, [(1, 0), (1, 1), (1, 2)])

    def test_lists_of_tuples_of_numbers_are_told(self):
        hall = Hall(A, B, MANNER)
        answer = hall.hear((1, 0))
        self.assertIs(type(hall.said()), list)
        self.assertIs(type(hall.due()), list)
        for step in hall.said() + hall.due() + [answer]:
            self.assertIs(type(step), tuple)
            self.assertEqual([type(part) for part in step], [int, int])


if __name__ == "__main__":
    unittest.main()
