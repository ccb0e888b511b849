"""Points [11], [12] and [13], with the interface of parleyhall/making.py."""

import inspect
import itertools
import unittest

from made_talks import (
    TWELVE, all_manners, all_rows, broad, bush, deep, is_of_tuples, numbered_manners, some_of, steps_by_turns,
    talks_up_to,
)
from parleyhall.making import beside, from_to, gathered, spread
from parleyhall.manners import how_many, is_manner
from parleyhall.rows import steps
from parleyhall.talks import how_many_sayings, read, written
from parleyhall.together import copying

# Triples in which there is something to say in each talk more than once.
TRIPLES = (
    (deep(3), deep(2), deep(3)),
    (read("((()())())"), read("(()(()))"), read("(((()()))())")),
    (read("(()((())))"), read("((())(()()))"), read("((())((())))")),
    (broad(3), broad(2), broad(2)),
    (bush(2, 2), bush(2, 2), bush(2, 3)),
)


# A talk with names: a list of pairs, the name of each saying with the talk with names that goes on behind it.
# A name is a tuple: the talk in which it is said, the saying there.
def named(talk, name):
    return [((name, saying), named(behind, name)) for saying, behind in enumerate(talk)]


def beside_with_names(one, other):
    """Both handed in with names: the asker is due on both sides."""
    found = []
    for said, behind in one:
        found.append((said, [(answer, beside_with_names(then, other)) for answer, then in behind]))
    for said, behind in other:
        found.append((said, [(answer, beside_with_names(one, then)) for answer, then in behind]))
    return found


def asked_from_to(one, other, side):
    """The talk from one to another with names, where the asker is due on a side."""
    found = []
    for said, behind in (one, other)[side]:
        stands = (behind, other) if side == 0 else (one, behind)
        found.append((said, answered_from_to(stands[0], stands[1])))
    return found


def answered_from_to(one, other):
    found = [(said, asked_from_to(behind, other, 0)) for said, behind in one]
    return found + [(said, asked_from_to(one, behind, 1)) for said, behind in other]


def without_names(talk):
    return tuple(without_names(behind) for said, behind in talk)


def names_along(sides, row):
    """What is said in a row, by names; sides are the two talks with names from and to which it goes."""
    stands = list(sides)
    found = []
    for side, saying in row:
        said, stands[side] = stands[side][saying]
        found.append(said)
    return tuple(found)


def manner_by_names(sides, manner):
    found = {}
    for row, step in manner.items():
        said = names_along(sides, row + (step,))
        found[said[:-1]] = said[-1]
    return found


def first_sides(a, b, c):
    return (beside_with_names(named(a, "a"), named(b, "b")), named(c, "c"))


def second_sides(a, b, c):
    return (named(a, "a"), asked_from_to(named(b, "b"), named(c, "c"), 1))


def as_tuple(manner):
    return tuple(sorted(manner.items()))


class Arguments(unittest.TestCase):
    def test_names(self):
        for function, names in (
            (from_to, ["a", "b"]),
            (beside, ["a", "b"]),
            (gathered, ["a", "b", "c", "manner"]),
            (spread, ["a", "b", "c", "manner"]),
        ):
            with self.subTest(function=function.__name__):
                self.assertEqual(list(inspect.signature(function).parameters), names)

    def test_by_name(self):
        self.assertEqual(from_to(b=((),), a=((), ())), (((), ()),))
        self.assertEqual(beside(b=((),), a=((), ())), ((), (), ()))
        one = {((1, 0),): (0, 1)}
        other = {((1, 0),): (1, 0)}
        self.assertEqual(gathered(manner=one, c=((),), b=((),), a=((),)), other)
        self.assertEqual(spread(manner=other, c=((),), b=((),), a=((),)), one)


class FromTo(unittest.TestCase):
    def test_written_out(self):
        for a, b, text in (
            ("()", "()", "()"),
            ("(()(()))", "()", "()"),
            ("()", "(()())", "(()())"),
            ("(())", "(())", "((()))"),
            ("(()())", "(())", "((()()))"),
            ("(())", "((()))", "((()()))"),
            ("((()))", "(()())", "(((()))((())))"),
            ("((()))", "((()))", "((((()))()))"),
            ("(())", "((())())", "((()())(()))"),
            ("((())())", "(())", "(((())()))"),
        ):
            with self.subTest(a=a, b=b):
                self.assertEqual(written(from_to(read(a), read(b))), text)

    def test_from_a_talk_that_is_over_is_the_talk_itself(self):
        for talk in talks_up_to(5):
            self.assertEqual(from_to((), talk), talk)

    def test_to_a_talk_that_is_over_is_over(self):
        for talk in talks_up_to(5):
            self.assertEqual(from_to(talk, ()), ())

    def check_each_moment(self, a, b):
        talk = from_to(a, b)
        self.assertTrue(is_of_tuples(talk))
        rows = all_rows(a, b)
        self.assertEqual(how_many_sayings(talk), len(rows) - 1)
        for row in rows:
            stands = talk
            for place, step in enumerate(row):
                stands = stands[steps_by_turns(a, b, row[:place]).index(step)]
            self.assertEqual(len(stands), len(steps(a, b, row)), (a, b, row))

    def test_its_sayings_are_the_steps_at_each_moment(self):
        for a, b in itertools.product(talks_up_to(3), talks_up_to(4)):
            self.check_each_moment(a, b)

    def test_larger_talks(self):
        for a, b in ((TWELVE[0], TWELVE[1]), (TWELVE[2], TWELVE[0]), (deep(7), deep(6)), (broad(12), broad(12))):
            self.check_each_moment(a, b)

    def test_with_names(self):
        for a, b in itertools.product(talks_up_to(4), repeat=2):
            self.assertEqual(from_to(a, b), without_names(asked_from_to(named(a, "a"), named(b, "b"), 1)))


class Beside(unittest.TestCase):
    def test_written_out(self):
        for a, b, text in (
            ("()", "()", "()"),
            ("(())", "(())", "(()())"),
            ("(()())", "(())", "(()()())"),
            ("((()))", "()", "((()))"),
            ("((()))", "(())", "(((()))())"),
            ("(())", "((()))", "(()((())))"),
            ("((()()))", "(())", "(((())(()))())"),
            ("(((())))", "(())", "(((()()))())"),
            ("((()))", "((()))", "((((())))(((()))))"),
        ):
            with self.subTest(a=a, b=b):
                self.assertEqual(written(beside(read(a), read(b))), text)

    def test_beside_a_talk_that_is_over_is_the_talk_itself(self):
        for talk in talks_up_to(5):
            self.assertEqual(beside(talk, ()), talk)
            self.assertEqual(beside((), talk), talk)

    def test_its_sayings_are_the_documents_at_each_moment(self):
        for a, b in itertools.product(talks_up_to(4), repeat=2):
            talk = beside(a, b)
            self.assertTrue(is_of_tuples(talk))
            self.check_asked(talk, a, b)

    def check_asked(self, talk, a, b):
        self.assertEqual(len(talk), len(a) + len(b))
        for saying, answers in enumerate(a):
            self.assertEqual(len(talk[saying]), len(answers))
            for answer, then in enumerate(answers):
                self.check_asked(talk[saying][answer], then, b)
        for saying, answers in enumerate(b):
            self.assertEqual(len(talk[len(a) + saying]), len(answers))
            for answer, then in enumerate(answers):
                self.check_asked(talk[len(a) + saying][answer], a, then)

    def test_larger_talks(self):
        for a, b in itertools.product(TWELVE, repeat=2):
            self.check_asked(beside(a, b), a, b)
            self.assertEqual(beside(a, b), without_names(beside_with_names(named(a, "a"), named(b, "b"))))


class Handed(unittest.TestCase):
    def test_talks_made_are_counted_written_and_read(self):
        for a, b in itertools.product(talks_up_to(3), repeat=2):
            for talk in (from_to(a, b), beside(a, b)):
                self.assertEqual(read(written(talk)), talk)
                self.assertEqual(len(written(talk)), 2 * how_many_sayings(talk) + 2)

    def test_talks_made_of_three(self):
        for a, b, c in itertools.product(talks_up_to(2), repeat=3):
            self.assertEqual(beside(beside(a, b), c), beside(a, beside(b, c)))
            # The same things are said, though in another order where the answerer has a choice.
            one = from_to(beside(a, b), c)
            other = from_to(a, from_to(b, c))
            self.assertEqual(how_many_sayings(one), how_many_sayings(other))

    def test_talks_made_of_made_ones_are_of_tuples(self):
        a, b, c = TWELVE
        for talk in (from_to(from_to(a, b), c), from_to(a, beside(b, c)), beside(beside(a, b), c)):
            self.assertTrue(is_of_tuples(talk))


class WrittenOut(unittest.TestCase):
    def check(self, a, b, c, one, other):
        self.assertIs(is_manner(beside(a, b), c, one), True)
        self.assertIs(is_manner(a, from_to(b, c), other), True)
        self.assertEqual(gathered(a, b, c, one), other)
        self.assertEqual(spread(a, b, c, other), one)

    def test_silence(self):
        for a, b, c in itertools.product(talks_up_to(3), repeat=3):
            self.check(a, b, c, {}, {})

    def test_said_in_a(self):
        self.check(broad(3), broad(2), broad(1), {((1, 0),): (0, 2)}, {((1, 0),): (0, 2)})

    def test_said_in_b(self):
        self.check(broad(3), broad(2), broad(1), {((1, 0),): (0, 4)}, {((1, 0),): (1, 1)})

    def test_said_in_c(self):
        self.check(broad(3), broad(2), (broad(2),), {((1, 0),): (1, 1)}, {((1, 0),): (1, 3)})

    def test_said_in_all_of_them(self):
        a = ((), broad(2))
        b = ((), (), broad(3))
        c = deep(2)
        one = {
            ((1, 0),): (0, 4),
            ((1, 0), (0, 4), (0, 2)): (0, 1),
            ((1, 0), (0, 4), (0, 2), (0, 1), (0, 1)): (1, 0),
        }
        other = {
            ((1, 0),): (1, 2),
            ((1, 0), (1, 2), (1, 2)): (0, 1),
            ((1, 0), (1, 2), (1, 2), (0, 1), (0, 1)): (1, 0),
        }
        self.check(a, b, c, one, other)

    def test_the_sayings_that_there_are_now_count_and_not_those_at_the_beginning(self):
        # Behind what is said in a, three sayings are there in place of one, and b's follow them.
        a = ((broad(3),),)
        b = broad(2)
        c = deep(1)
        row = ((1, 0), (0, 0), (0, 0))
        self.check(a, b, c, {row[:1]: (0, 0), row: (0, 4)}, {row[:1]: (0, 0), row: (1, 1)})
        self.check(a, b, c, {row[:1]: (0, 0), row: (0, 2)}, {row[:1]: (0, 0), row: (0, 2)})

    def test_talks_that_are_over(self):
        self.check((), (), deep(2), {((1, 0),): (1, 0)}, {((1, 0),): (1, 0)})
        self.check((), broad(2), deep(1), {((1, 0),): (0, 1)}, {((1, 0),): (1, 1)})
        self.check(broad(2), (), deep(1), {((1, 0),): (0, 1)}, {((1, 0),): (0, 1)})
        self.check(broad(2), broad(2), (), {}, {})

    def test_the_copying_manner_of_talks_beside_one_another(self):
        # What it says in a and b is what it hears in c, which is a and b beside one another.
        a = broad(1)
        b = broad(2)
        copy = copying(beside(a, b))
        self.assertEqual(gathered(a, b, beside(a, b), copy), {
            ((1, 0),): (0, 0), ((1, 1),): (1, 0), ((1, 2),): (1, 1),
        })


class GatheredAndSpread(unittest.TestCase):
    def check_first(self, a, b, c, manner):
        carried = gathered(a, b, c, manner)
        self.assertIs(type(carried), dict)
        self.assertIs(is_manner(a, from_to(b, c), carried), True)
        self.assertEqual(spread(a, b, c, carried), manner)
        return carried

    def check_second(self, a, b, c, manner):
        carried = spread(a, b, c, manner)
        self.assertIs(type(carried), dict)
        self.assertIs(is_manner(beside(a, b), c, carried), True)
        self.assertEqual(gathered(a, b, c, carried), manner)
        return carried

    def check_names(self, a, b, c, one, other):
        first = manner_by_names(first_sides(a, b, c), one)
        second = manner_by_names(second_sides(a, b, c), other)
        self.assertEqual(first, second, (a, b, c, one))
        self.assertEqual(len(first), len(one))

    def check_some(self, a, b, c, most):
        for manner in numbered_manners(beside(a, b), c, most):
            self.check_names(a, b, c, manner, self.check_first(a, b, c, manner))
        for manner in numbered_manners(a, from_to(b, c), most):
            self.check_names(a, b, c, self.check_second(a, b, c, manner), manner)

    def test_all_manners_of_small_talks(self):
        for a, b, c in itertools.product(talks_up_to(2), talks_up_to(2), talks_up_to(3)):
            firsts = all_manners(beside(a, b), c)
            seconds = all_manners(a, from_to(b, c))
            self.assertEqual(len(firsts), len(seconds))
            carried = [self.check_first(a, b, c, manner) for manner in firsts]
            self.assertCountEqual(map(as_tuple, carried), map(as_tuple, seconds))
            for manner in some_of(seconds, 10):
                self.check_names(a, b, c, self.check_second(a, b, c, manner), manner)

    def test_longer_talks(self):
        for a, b, c in TRIPLES:
            self.check_some(a, b, c, 150)

    def test_talks_of_twelve_sayings(self):
        for a, b, c in itertools.product(TWELVE, repeat=3):
            self.check_some(a, b, c, 12)

    def test_as_many_of_the_one_kind_as_of_the_other(self):
        triples = list(itertools.product(talks_up_to(3), repeat=3)) + list(itertools.product(TWELVE, repeat=3))
        for a, b, c in triples:
            self.assertEqual(how_many(beside(a, b), c), how_many(a, from_to(b, c)), (a, b, c))

    def test_talks_made_of_talks(self):
        a, b, c = TRIPLES[1]
        self.check_some(from_to(a, b), c, beside(b, a), 10)
        self.check_some(a, from_to(b, c), from_to(c, a), 10)


if __name__ == "__main__":
    unittest.main()
