"""Points [8], [9] and [10], with the interface of parleyhall/together.py."""

import inspect
import itertools
import unittest

from made_talks import (
    TWELVE, all_manners, broad, bush, deep, numbered_manners, rows_that_come_up, some_of, talks_up_to,
)
from parleyhall.making import beside, from_to
from parleyhall.manners import comes_up, is_manner
from parleyhall.talks import how_many_sayings, read
from parleyhall.together import copying, together

# Talks that go on long enough for both to speak in b more than once.
LONG = (deep(3), deep(4), read("(((())()))"), read("((())(()))"))


def rows_by(a, b, manner):
    """All rows that the talk can stand at, by a manner: none said, those that come up, and those answered."""
    return {()} | set(rows_that_come_up(a, b, manner)) | {row + (step,) for row, step in manner.items()}


def seen_from(said, first, second):
    """What was said in two of three talks, as a row from the one to the other."""
    return tuple(((first, second).index(talk), saying) for talk, saying in said if talk in (first, second))


def together_told_another_way(a, b, c, one, other):
    """All that can be said in a, b and c at once so that each of the two sees a row of its own; then b is hidden."""
    rows_of_one = rows_by(a, b, one)
    rows_of_other = rows_by(b, c, other)
    most = max(how_many_sayings(talk) for talk in (a, b, c))
    manner = {}
    waiting = [()]
    while waiting:
        said = waiting.pop()
        for spoken in itertools.product(range(3), range(most)):
            longer = said + (spoken,)
            if seen_from(longer, 0, 1) in rows_of_one and seen_from(longer, 1, 2) in rows_of_other:
                waiting.append(longer)
                row = seen_from(longer, 0, 2)
                if len(row) % 2 == 0 and spoken[0] != 1:
                    manner[row[:-1]] = row[-1]
    return manner


class Arguments(unittest.TestCase):
    def test_names(self):
        self.assertEqual(list(inspect.signature(copying).parameters), ["talk"])
        self.assertEqual(list(inspect.signature(together).parameters), ["a", "b", "c", "one", "other"])

    def test_by_name(self):
        copy = {((1, 0),): (0, 0)}
        self.assertEqual(copying(talk=((),)), copy)
        self.assertEqual(together(other=copy, one=copy, c=((),), b=((),), a=((),)), copy)


class Copying(unittest.TestCase):
    def test_written_out(self):
        self.assertEqual(copying(()), {})
        self.assertEqual(copying(broad(2)), {((1, 0),): (0, 0), ((1, 1),): (0, 1)})
        self.assertEqual(copying(read("(()((())()))")), {
            ((1, 0),): (0, 0),
            ((1, 1),): (0, 1),
            ((1, 1), (0, 1), (0, 0)): (1, 0),
            ((1, 1), (0, 1), (0, 0), (1, 0), (1, 0)): (0, 0),
            ((1, 1), (0, 1), (0, 1)): (1, 1),
        })

    def check(self, talk):
        manner = copying(talk)
        self.assertIs(type(manner), dict)
        self.assertIs(is_manner(talk, talk, manner), True)
        self.assertEqual(list(sorted(manner)), comes_up(talk, talk, manner))
        for row, step in manner.items():
            self.assertEqual(step, (1 - row[-1][0], row[-1][1]))
        self.assertEqual(len(manner), how_many_sayings(talk))

    def test_all_small_talks(self):
        for talk in talks_up_to(6):
            self.check(talk)

    def test_large_talks(self):
        for talk in TWELVE + (from_to(TWELVE[0], TWELVE[1]), beside(TWELVE[1], TWELVE[2]), deep(12), bush(3, 3)):
            self.check(talk)


class WrittenOut(unittest.TestCase):
    # All of one talk: said in c, heard in b, said in a, and back.
    LINE = deep(2)

    def test_the_second_answers_in_c(self):
        other = {((1, 0),): (1, 0)}
        self.assertEqual(together(self.LINE, self.LINE, self.LINE, {}, other), other)

    def test_the_second_turns_to_b_and_the_first_to_a(self):
        one = {((1, 1),): (0, 2)}
        other = {((1, 0),): (0, 1)}
        self.assertEqual(together(broad(3), broad(2), broad(1), one, other), {((1, 0),): (0, 2)})

    def test_the_first_answers_in_b_and_the_second_in_c(self):
        one = {((1, 0),): (1, 0)}
        other = {((1, 0),): (0, 0), ((1, 0), (0, 0), (0, 0)): (1, 0)}
        self.assertEqual(together((), self.LINE, self.LINE, one, other), {((1, 0),): (1, 0)})

    def test_the_asker_goes_on_in_a_and_is_heard_by_the_first(self):
        one = {((1, 0),): (0, 0), ((1, 0), (0, 0), (0, 1)): (1, 0)}
        other = {((1, 0),): (0, 0), ((1, 0), (0, 0), (0, 0)): (1, 0)}
        self.assertEqual(together((broad(2),), self.LINE, self.LINE, one, other), {
            ((1, 0),): (0, 0),
            ((1, 0), (0, 0), (0, 1)): (1, 0),
        })

    def test_back_and_forth_in_b(self):
        one = {((1, 0),): (1, 0), ((1, 0), (1, 0), (1, 0)): (0, 1)}
        other = {((1, 0),): (0, 0), ((1, 0), (0, 0), (0, 0)): (0, 0)}
        self.assertEqual(together(broad(2), deep(3), deep(1), one, other), {((1, 0),): (0, 1)})

    def test_silence_of_the_second_at_once(self):
        one = {((1, 0),): (0, 0)}
        self.assertEqual(together(broad(1), broad(1), broad(1), one, {}), {})

    def test_silence_of_the_first_meanwhile(self):
        other = {((1, 0),): (0, 0), ((1, 1),): (1, 0)}
        self.assertEqual(together(broad(1), broad(1), ((), ((),)), {}, other), {((1, 1),): (1, 0)})

    def test_silence_of_the_second_meanwhile(self):
        one = {((1, 0),): (1, 0)}
        other = {((1, 0),): (0, 0)}
        self.assertEqual(together((), self.LINE, self.LINE, one, other), {})

    def test_silence_of_the_first_in_a(self):
        one = {((1, 0),): (0, 0)}
        other = {((1, 0),): (0, 0)}
        self.assertEqual(together(self.LINE, self.LINE, self.LINE, one, other), {((1, 0),): (0, 0)})

    def test_silence_of_the_first_behind_much_that_was_said_in_b(self):
        one = {((1, 0),): (1, 0)}
        other = {((1, 0),): (0, 0), ((1, 0), (0, 0), (0, 0)): (0, 0)}
        self.assertEqual(together(broad(2), deep(3), deep(1), one, other), {})

    def test_talks_that_are_over(self):
        self.assertEqual(together((), (), (), {}, {}), {})
        self.assertEqual(together(broad(2), broad(2), (), {((1, 0),): (0, 0)}, {}), {})
        self.assertEqual(together(broad(2), (), deep(2), {}, {((1, 0),): (1, 0)}), {((1, 0),): (1, 0)})


class ToldAnotherWay(unittest.TestCase):
    def check(self, a, b, c, ones, others):
        for one in ones:
            for other in others:
                manner = together(a, b, c, one, other)
                self.assertEqual(manner, together_told_another_way(a, b, c, one, other), (a, b, c, one, other))
                self.assertIs(is_manner(a, c, manner), True)
                self.assertEqual(comes_up(a, c, manner), rows_that_come_up(a, c, manner))

    def test_all_manners_of_small_talks(self):
        for a, b, c in itertools.product(talks_up_to(2), repeat=3):
            self.check(a, b, c, all_manners(a, b), all_manners(b, c))

    def test_longer_talks(self):
        for a, b, c in itertools.product(LONG, repeat=3):
            self.check(a, b, c, some_of(all_manners(a, b), 6), some_of(all_manners(b, c), 6))

    def test_a_long_talk_in_between(self):
        for a, c in itertools.product((deep(1), deep(2), broad(2)), repeat=2):
            b = deep(6)
            self.check(a, b, c, all_manners(a, b), some_of(all_manners(b, c), 40))


class AManner(unittest.TestCase):
    def check(self, a, b, c, one, other):
        manner = together(a, b, c, one, other)
        self.assertIs(type(manner), dict)
        self.assertIs(is_manner(a, c, manner), True)
        self.assertLessEqual(set(manner), set(comes_up(a, c, manner)))

    def test_all_small_talks(self):
        for a, b, c in itertools.product(talks_up_to(3), repeat=3):
            for one in numbered_manners(a, b, 12):
                for other in numbered_manners(b, c, 12):
                    self.check(a, b, c, one, other)

    def test_talks_of_twelve_sayings_and_those_made_of_them(self):
        talks = TWELVE + (from_to(TWELVE[0], TWELVE[2]), beside(TWELVE[2], TWELVE[1]))
        for a, b, c in itertools.product(talks, repeat=3):
            for one in numbered_manners(a, b, 4):
                for other in numbered_manners(b, c, 4):
                    self.check(a, b, c, one, other)


class CopyingPutAheadOrBehind(unittest.TestCase):
    def check(self, a, b, manner):
        self.assertEqual(together(a, a, b, copying(a), manner), manner)
        self.assertEqual(together(a, b, b, manner, copying(b)), manner)

    def test_all_small_talks(self):
        for a, b in itertools.product(talks_up_to(3), talks_up_to(4)):
            for manner in numbered_manners(a, b, 60):
                self.check(a, b, manner)

    def test_larger_talks(self):
        talks = LONG + TWELVE + (from_to(TWELVE[0], TWELVE[1]), beside(TWELVE[0], TWELVE[1]))
        for a, b in itertools.product(talks, repeat=2):
            for manner in numbered_manners(a, b, 5):
                self.check(a, b, manner)

    def test_the_silent_manner_stays_silent(self):
        for a, b in itertools.product(talks_up_to(3), repeat=2):
            self.check(a, b, {})


class OfThree(unittest.TestCase):
    def check(self, talks, manners):
        a, b, c, d = talks
        first, second, third = manners
        ahead = together(a, c, d, together(a, b, c, first, second), third)
        behind = together(a, b, d, first, together(b, c, d, second, third))
        self.assertEqual(ahead, behind, (talks, manners))

    def check_all(self, talks, most):
        kinds = [numbered_manners(one, other, most) for one, other in zip(talks, talks[1:])]
        for manners in itertools.product(*kinds):
            self.check(talks, manners)

    def test_small_talks(self):
        for talks in itertools.product(talks_up_to(2), repeat=4):
            self.check_all(talks, 9)

    def test_longer_talks(self):
        for talks in itertools.product(LONG, repeat=4):
            self.check_all(talks, 4)

    def test_talks_of_twelve_sayings(self):
        for talks in itertools.product(TWELVE, repeat=4):
            self.check_all(talks, 3)


if __name__ == "__main__":
    unittest.main()
