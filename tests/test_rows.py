"""Points [1], [4] and [5], with the interface of parleyhall/rows.py."""

import inspect
import unittest

from made_talks import all_rows, bush, broad, comb, deep, steps_by_turns, talks_up_to
from parleyhall.errors import NoRow
from parleyhall.rows import steps
from parleyhall.talks import read


class Arguments(unittest.TestCase):
    def test_names(self):
        self.assertEqual(list(inspect.signature(steps).parameters), ["a", "b", "row"])

    def test_by_name(self):
        self.assertEqual(steps(row=(), b=((),), a=()), [(1, 0)])


class WrittenOut(unittest.TestCase):
    A = read("((()())(()))")
    B = read("((()(()))()(()))")

    def check(self, row, expected):
        with self.subTest(row=row):
            self.assertEqual(steps(self.A, self.B, row), expected)

    def test_nothing_said_yet_the_asker_begins_in_b_alone(self):
        self.check((), [(1, 0), (1, 1), (1, 2)])

    def test_the_answerer_is_due_on_both_sides(self):
        self.check(((1, 0),), [(0, 0), (0, 1), (1, 0), (1, 1)])
        self.check(((1, 2),), [(0, 0), (0, 1), (1, 0)])

    def test_the_answerer_goes_on_in_a_alone_where_b_is_over(self):
        self.check(((1, 1),), [(0, 0), (0, 1)])

    def test_the_asker_answers_where_the_answerer_spoke(self):
        self.check(((1, 0), (0, 0)), [(0, 0), (0, 1)])
        self.check(((1, 0), (0, 1)), [(0, 0)])
        self.check(((1, 0), (1, 1)), [(1, 0)])

    def test_the_asker_has_nothing_to_say_where_that_side_is_over(self):
        self.check(((1, 0), (1, 0)), [])
        self.check(((1, 2), (1, 0)), [])

    def test_the_answerer_goes_on_from_where_the_other_side_stands(self):
        self.check(((1, 0), (0, 0), (0, 1)), [(1, 0), (1, 1)])
        self.check(((1, 0), (1, 1), (1, 0)), [(0, 0), (0, 1)])
        self.check(((1, 0), (0, 0), (0, 1), (1, 1)), [(1, 0)])

    def test_over_on_both_sides(self):
        self.check(((1, 0), (0, 0), (0, 1), (1, 1), (1, 0)), [])
        self.check(((1, 1), (0, 0), (0, 0)), [])

    def test_back_and_forth(self):
        a = read("((((()))))")
        b = read("((((()))))")
        row = ((1, 0), (0, 0), (0, 0), (1, 0), (1, 0), (0, 0))
        self.assertEqual(steps(a, b, row), [(0, 0)])
        self.assertEqual(steps(a, b, row[:5]), [(0, 0), (1, 0)])
        self.assertEqual(steps(a, b, row + ((0, 0),)), [(1, 0)])


class TalksThatAreOver(unittest.TestCase):
    def test_both(self):
        self.assertEqual(steps((), (), ()), [])

    def test_b(self):
        self.assertEqual(steps(broad(3), (), ()), [])

    def test_a(self):
        self.assertEqual(steps((), broad(2), ()), [(1, 0), (1, 1)])
        self.assertEqual(steps((), broad(2), ((1, 1),)), [])
        self.assertEqual(steps((), bush(2, 3), ((1, 1),)), [(1, 0), (1, 1)])
        self.assertEqual(steps((), bush(2, 3), ((1, 1), (1, 0))), [(1, 0), (1, 1)])

    def test_nothing_goes_on_from_them(self):
        self.assertRaises(NoRow, steps, (), (), ((1, 0),))
        self.assertRaises(NoRow, steps, broad(3), (), ((1, 0),))
        self.assertRaises(NoRow, steps, broad(3), (), ((0, 0),))
        self.assertRaises(NoRow, steps, (), broad(2), ((1, 0), (0, 0)))
        self.assertRaises(NoRow, steps, (), broad(2), ((1, 0), (1, 0)))


class ToldAnotherWay(unittest.TestCase):
    def check_all_rows(self, a, b):
        for row in all_rows(a, b):
            told = steps(a, b, row)
            self.assertEqual(told, steps_by_turns(a, b, row), (a, b, row))
            self.assertEqual(told, sorted(told))

    def test_all_small_talks(self):
        for a in talks_up_to(4):
            for b in talks_up_to(4):
                self.check_all_rows(a, b)

    def test_larger_talks(self):
        for a, b in (
            ("((()())((())))", "((()(()))(()))"),
            ("(()()()()()()()()()()()())", "(()()()()()()()()()()()())"),
            ("(((((())))))", "(((((()))))())"),
            ("((((())(())))((())))", "((()())(()()))"),
            ("((()())(()()))", "((((())(())))((())))"),
        ):
            with self.subTest(a=a, b=b):
                self.check_all_rows(read(a), read(b))

    def test_long_rows(self):
        a = comb(40)
        b = comb(40)
        row = ()
        while steps(a, b, row):
            self.assertEqual(steps(a, b, row), steps_by_turns(a, b, row))
            # The last saying of each side goes on longest; turning to a now and then stirs both.
            told = steps(a, b, row)
            on_a = [step for step in told if step[0] == 0]
            row += (on_a[-1] if on_a and len(row) % 3 == 1 else told[-1],)
        self.assertGreater(len(row), 40)

    def test_deep_talks(self):
        row = ((1, 0),) * 200
        self.assertEqual(steps(deep(200), deep(200), row), [])
        self.assertEqual(steps(deep(200), deep(200), row[:199]), [(0, 0), (1, 0)])
        self.assertEqual(steps(deep(200), deep(200), row[:198]), [(1, 0)])

    def test_broad_talks(self):
        self.assertEqual(steps(broad(200), broad(200), ()), [(1, saying) for saying in range(200)])
        self.assertEqual(steps(broad(200), broad(200), ((1, 199),)), [(0, saying) for saying in range(200)])


class Refused(unittest.TestCase):
    A = read("((()())(()))")
    B = read("((()(()))()(()))")

    def refuse(self, row):
        with self.subTest(row=row):
            with self.assertRaises(NoRow):
                steps(self.A, self.B, row)

    def test_a_saying_beyond_those_that_there_are(self):
        for row in (
            ((1, 3),),
            ((1, 10 ** 5000),),
            ((1, 0), (0, 2)),
            ((1, 0), (1, 2)),
            ((1, 1), (1, 0)),
            ((1, 0), (0, 1), (0, 1)),
            ((1, 0), (0, 0), (0, 0), (0, 0)),
        ):
            self.refuse(row)

    def test_a_saying_below_nought(self):
        for row in (
            ((1, -1),),
            ((1, -3),),
            ((1, -4),),
            ((1, -(10 ** 5000)),),
            ((1, 0), (0, -1)),
            ((1, 0), (1, -2)),
            ((1, 0), (0, 0), (0, -1)),
        ):
            self.refuse(row)

    def test_the_wrong_side_for_the_asker(self):
        for row in (
            ((0, 0),),
            ((0, 1),),
            ((1, 0), (0, 0), (1, 0)),
            ((1, 0), (1, 1), (0, 0)),
            ((1, 0), (0, 0), (0, 0), (1, 1), (0, 0)),
        ):
            self.refuse(row)

    def test_a_side_that_there_is_not(self):
        for side in (-2, -1, 2, 3, 10 ** 5000):
            self.refuse(((side, 0),))
            self.refuse(((1, 0), (side, 0)))
            self.refuse(((1, 0), (0, 0), (side, 0)))

    def test_a_step_left_out(self):
        whole = ((1, 0), (0, 1), (0, 0), (1, 1), (1, 0))
        self.assertEqual(steps(self.A, self.B, whole), [])
        for place in range(3):
            self.refuse(whole[:place] + whole[place + 1:])
        self.refuse(whole[:3] + ((0, 0),))
        self.refuse(((1, 0), (0, 0), (1, 1), (1, 0)))

    def test_sides_exchanged(self):
        self.refuse(((0, 0), (1, 1), (1, 0)))

    def test_a_wrong_step_anywhere_with_right_ones_behind(self):
        for behind in ((), ((1, 0),), ((0, 0),), ((1, 0), (0, 0))):
            self.refuse(((1, 3),) + behind)
            self.refuse(((0, 0),) + behind)
            self.refuse(((1, -1),) + behind)
            self.refuse(((1, 1), (1, 0)) + behind)

    def test_every_step_that_is_not_told(self):
        for a in talks_up_to(3):
            for b in talks_up_to(3):
                for row in all_rows(a, b):
                    told = steps(a, b, row)
                    for side in range(-2, 4):
                        for saying in range(-4, 5):
                            longer = row + ((side, saying),)
                            if (side, saying) in told:
                                self.assertIs(type(steps(a, b, longer)), list)
                            else:
                                self.assertRaises(NoRow, steps, a, b, longer)


class TheAskersOwn(unittest.TestCase):
    A = ((), ((),))
    B = (((), ()), ())

    def test_a_list_of_tuples_of_numbers_is_told(self):
        for row in ((), ((1, 0),), ((1, 1), (0, 0))):
            told = steps(self.A, self.B, row)
            self.assertIs(type(told), list)
            for step in told:
                self.assertIs(type(step), tuple)
                self.assertEqual([type(part) for part in step], [int, int])

    def test_what_is_told_may_be_changed(self):
        for row in ((), ((1, 0),), ((1, 1),), ((1, 0), (1, 1)), ((1, 1), (0, 1))):
            told = steps(self.A, self.B, row)
            kept = list(told)
            told.append("more")
            told.reverse()
            self.assertEqual(steps(self.A, self.B, row), kept)
            told.clear()
            self.assertEqual(steps(self.A, self.B, row), kept)

    def test_no_two_lists_are_one(self):
        for row in ((), ((1, 0),), ((1, 0), (1, 1))):
            self.assertIsNot(steps(self.A, self.B, row), steps(self.A, self.B, row))

    def test_a_refusal_leaves_nothing_behind(self):
        before = steps(self.A, self.B, ((1, 0),))
        self.assertRaises(NoRow, steps, self.A, self.B, ((1, 0), (0, 5)))
        self.assertEqual(steps(self.A, self.B, ((1, 0),)), before)

    def test_other_talks_in_between(self):
        before = steps(self.A, self.B, ((1, 0),))
        steps(self.B, self.A, ((1, 0),))
        steps(broad(5), broad(7), ())
        self.assertEqual(steps(self.A, self.B, ((1, 0),)), before)

    def test_what_is_handed_in_is_not_changed(self):
        row = ((1, 0), (1, 1))
        steps(self.A, self.B, row)
        self.assertEqual((self.A, self.B, row), (((), ((),)), (((), ()), ()), ((1, 0), (1, 1))))


if __name__ == "__main__":
    unittest.main()
