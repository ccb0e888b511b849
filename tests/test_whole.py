"""Point [1] and the head of "The interface", over the whole program."""

import copy
import unittest

from made_talks import A, B, TWELVE, deep
from parleyhall import errors, hall, making, manners, rows, talks, together
from parleyhall.errors import NoNumber, NoRow, NoStep, NotRead, Over, ParleyError

C = talks.read("((())())")
FIRST = manners.manner_at(A, B, manners.how_many(A, B) - 1)
SECOND = manners.manner_at(B, C, manners.how_many(B, C) - 1)
APART = manners.manner_at(making.beside(A, B), C, manners.how_many(making.beside(A, B), C) - 2)
INSIDE = manners.manner_at(A, making.from_to(B, C), manners.how_many(A, making.from_to(B, C)) - 2)

# Every function with things to hand in.
CALLS = (
    (talks.how_many_sayings, (A,)),
    (talks.written, (A,)),
    (talks.read, ("(()(()))",)),
    (rows.steps, (A, B, ((1, 0),))),
    (rows.steps, (A, B, ())),
    (manners.comes_up, (A, B, FIRST)),
    (manners.comes_up, (A, (), {})),
    (manners.is_manner, (A, B, FIRST)),
    (manners.is_manner, (A, B, SECOND)),
    (manners.is_manner, (A, B, {(): (0, 0), ((1, 0),): (0, 9)})),
    (manners.how_many, (A, B)),
    (manners.manner_at, (A, B, 0)),
    (manners.manner_at, (A, B, 77)),
    (manners.number_of, (A, B, FIRST)),
    (together.copying, (A,)),
    (together.copying, ((),)),
    (together.together, (A, B, C, FIRST, SECOND)),
    (together.together, (A, A, B, together.copying(A), FIRST)),
    (together.together, (A, B, C, {}, {})),
    (making.from_to, (A, B)),
    (making.beside, (A, B)),
    (making.gathered, (A, B, C, APART)),
    (making.gathered, (A, B, C, {})),
    (making.spread, (A, B, C, INSIDE)),
    (making.spread, (A, B, C, {})),
)

# Calls that are refused, each with its own class.
REFUSED = (
    (NotRead, talks.read, ("",)),
    (NotRead, talks.read, ("(()",)),
    (NotRead, talks.read, ("()()",)),
    (NoRow, rows.steps, (A, B, ((0, 0),))),
    (NoRow, rows.steps, (A, B, ((1, 0), (0, 9)))),
    (NoRow, rows.steps, ((), (), ((1, 0),))),
    (NoNumber, manners.manner_at, (A, B, -1)),
    (NoNumber, manners.manner_at, (A, B, manners.how_many(A, B))),
    (NoNumber, manners.manner_at, ((), (), 1)),
    (NoStep, hall.Hall(A, B, FIRST).hear, ((0, 0),)),
    (NoStep, hall.Hall(A, (), {}).hear, ((1, 0),)),
)


def over_hall():
    silent = hall.Hall(A, B, {})
    silent.hear((1, 0))
    return silent


class TheAskingOnesOwn(unittest.TestCase):
    def each(self):
        return [(function, copy.deepcopy(given)) for function, given in CALLS]

    def test_nothing_handed_in_is_changed(self):
        for function, given in self.each():
            before = copy.deepcopy(given)
            function(*given)
            self.assertEqual(given, before)
            for part, part_before in zip(given, before):
                if isinstance(part, dict):
                    self.assertEqual(list(part.items()), list(part_before.items()))

    def test_nothing_handed_in_is_kept(self):
        for function, given in self.each():
            told = copy.deepcopy(function(*given))
            others = copy.deepcopy(given)
            for part in given:
                if isinstance(part, dict):
                    part.clear()
                    part[((9, 9),)] = (9, 9)
            self.assertEqual(function(*others), told)

    def test_what_is_told_is_not_what_was_handed_in(self):
        for function, given in self.each():
            told = function(*given)
            if isinstance(told, (list, dict)):
                for part in given:
                    self.assertIsNot(told, part)

    def test_what_is_told_stays_as_it_is_when_what_was_handed_in_is_changed(self):
        for function, given in self.each():
            told = function(*given)
            before = copy.deepcopy(told)
            for part in given:
                if isinstance(part, dict):
                    part.clear()
            self.assertEqual(told, before)

    def test_what_is_told_may_be_changed(self):
        for function, given in self.each():
            told = function(*given)
            before = copy.deepcopy(told)
            if isinstance(told, list):
                told.append("more")
                told.reverse()
            if isinstance(told, dict):
                told[((9, 9),)] = (9, 9)
                told.pop(list(told)[0])
            self.assertEqual(function(*given), before)
            if isinstance(told, (list, dict)):
                told.clear()
            self.assertEqual(function(*given), before)

    def test_no_two_lists_or_dicts_told_are_one(self):
        for function, given in self.each():
            one = function(*given)
            other = function(*given)
            self.assertEqual(one, other)
            if isinstance(one, (list, dict)):
                self.assertIsNot(one, other)

    def test_calls_in_between_change_nothing(self):
        before = [copy.deepcopy(function(*given)) for function, given in CALLS]
        for error, function, given in REFUSED:
            self.assertRaises(error, function, *given)
        after = [function(*given) for function, given in reversed(CALLS)]
        self.assertEqual(after[::-1], before)

    def test_the_files_keep_nothing_that_can_be_changed(self):
        for module in (errors, hall, making, manners, rows, talks, together):
            for name, value in vars(module).items():
                if not name.startswith("__"):
                    with self.subTest(module=module.__name__, name=name):
                        self.assertNotIsInstance(value, (list, dict, set))


class Refusals(unittest.TestCase):
    def check(self, error, function, given):
        with self.assertRaises(ParleyError) as taken:
            function(*given)
        self.assertIs(type(taken.exception), error)

    def test_each_is_of_its_own_class(self):
        for place, (error, function, given) in enumerate(REFUSED):
            with self.subTest(place=place, error=error.__name__):
                self.check(error, function, given)
        for step in ((1, 0), (0, 0), (9, -9)):
            self.check(Over, over_hall().hear, (step,))

    def test_each_stands_under_parley_error(self):
        for error in (NotRead, NoRow, NoNumber, NoStep, Over):
            self.assertEqual(error.__bases__, (ParleyError,))

    def test_numbers_that_are_too_long_to_be_shown(self):
        far = 10 ** 5000
        self.check(NoRow, rows.steps, (A, B, ((1, far),)))
        self.check(NoNumber, manners.manner_at, (A, B, far))
        self.check(NoNumber, manners.manner_at, (A, B, -far))
        self.check(NoStep, hall.Hall(A, B, {}).hear, ((far, -far),))
        self.check(Over, over_hall().hear, ((far, -far),))


class SomewhatBeyond(unittest.TestCase):
    def test_nothing_is_refused_for_its_size(self):
        talk = (deep(7),) + TWELVE[1] + ((), deep(5))
        copying = together.copying(talk)
        self.assertIs(manners.is_manner(talk, talk, copying), True)
        number = manners.number_of(talk, talk, copying)
        self.assertEqual(manners.manner_at(talk, talk, number), copying)
        self.assertEqual(together.together(talk, talk, talk, copying, copying), copying)
        made = making.beside(talk, A)
        apart = together.copying(made)
        self.assertEqual(making.spread(talk, A, made, making.gathered(talk, A, made, apart)), apart)


if __name__ == "__main__":
    unittest.main()
