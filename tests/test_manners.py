"""Points [6] and [7], with the interface of parleyhall/manners.py."""

import inspect
import unittest

from made_talks import (
    A, B, MANNER, TWELVE, all_manners, all_rows, broad, bush, deep, is_manner_by_its_words, rows_that_come_up, some_of,
    talks_up_to,
)
from parleyhall.errors import NoNumber
from parleyhall.making import beside, from_to
from parleyhall.manners import comes_up, how_many, is_manner, manner_at, number_of
from parleyhall.talks import read


def has_kinds_of_a_manner(manner):
    rows = list(manner) + [(step,) for step in manner.values()]
    return type(manner) is dict and all(
        type(row) is tuple and all(type(step) is tuple and [type(part) for part in step] == [int, int] for step in row)
        for row in rows
    )


class Arguments(unittest.TestCase):
    def test_names(self):
        for function, names in (
            (comes_up, ["a", "b", "manner"]),
            (is_manner, ["a", "b", "manner"]),
            (how_many, ["a", "b"]),
            (manner_at, ["a", "b", "number"]),
            (number_of, ["a", "b", "manner"]),
        ):
            with self.subTest(function=function.__name__):
                self.assertEqual(list(inspect.signature(function).parameters), names)

    def test_by_name(self):
        one = {((1, 0),): (0, 0)}
        self.assertEqual(comes_up(manner=one, b=((),), a=((),)), [((1, 0),)])
        self.assertIs(is_manner(manner=one, b=((),), a=((),)), True)
        self.assertEqual(how_many(b=((),), a=((),)), 2)
        self.assertEqual(manner_at(number=1, b=((),), a=((),)), one)
        self.assertEqual(number_of(manner=one, b=((),), a=((),)), 1)


class ComesUp(unittest.TestCase):
    def test_written_out(self):
        self.assertEqual(comes_up(A, B, MANNER), [
            ((1, 0),),
            ((1, 0), (0, 0), (0, 0)),
            ((1, 0), (0, 0), (0, 1)),
            ((1, 0), (0, 0), (0, 1), (1, 1), (1, 0)),
            ((1, 1),),
            ((1, 2),),
        ])

    def test_rows_at_which_the_answerer_is_silent(self):
        self.assertEqual(comes_up(A, B, {}), [((1, 0),), ((1, 1),), ((1, 2),)])
        self.assertEqual(comes_up((), broad(2), {}), [((1, 0),), ((1, 1),)])

    def test_nothing_comes_up_where_the_asker_can_not_begin(self):
        self.assertEqual(comes_up(broad(3), (), {}), [])
        self.assertEqual(comes_up((), (), {}), [])

    def test_every_manner_of_small_talks(self):
        for a in talks_up_to(3):
            for b in talks_up_to(4):
                for manner in some_of(all_manners(a, b), 40):
                    self.assertEqual(comes_up(a, b, manner), rows_that_come_up(a, b, manner), (a, b, manner))

    def test_more_than_ten_sayings_are_in_the_order_of_numbers(self):
        self.assertEqual(comes_up((), broad(12), {}), [((1, saying),) for saying in range(12)])

    def test_a_list_of_tuples_is_told(self):
        told = comes_up(A, B, MANNER)
        self.assertIs(type(told), list)
        self.assertTrue(all(type(row) is tuple for row in told))

    def test_the_order_in_which_the_manner_was_filled_is_all_the_same(self):
        turned = dict(reversed(list(MANNER.items())))
        self.assertEqual(comes_up(A, B, turned), comes_up(A, B, MANNER))


class IsManner(unittest.TestCase):
    def changed(self, row, step):
        return {**MANNER, row: step}

    def refuse(self, manner):
        with self.subTest(manner=manner):
            self.assertIs(is_manner(A, B, manner), False)

    def test_manners(self):
        self.assertIs(is_manner(A, B, MANNER), True)
        self.assertIs(is_manner(A, B, {}), True)
        self.assertIs(is_manner((), (), {}), True)
        self.assertIs(is_manner(A, B, self.changed(((1, 1),), (0, 1))), True)

    def test_a_side_on_which_the_step_does_not_go_on(self):
        self.refuse(self.changed(((1, 1),), (1, 0)))
        self.refuse(self.changed(((1, 0), (0, 0), (0, 1), (1, 1), (1, 0)), (1, 0)))

    def test_a_saying_beyond_or_below_nought(self):
        for saying in (2, 3, 10 ** 5000, -1, -2, -3, -(10 ** 5000)):
            self.refuse(self.changed(((1, 1),), (0, saying)))
            self.refuse(self.changed(((1, 2),), (1, saying)))

    def test_a_side_that_there_is_not(self):
        for side in (-2, -1, 2, 3, 10 ** 5000):
            self.refuse(self.changed(((1, 1),), (side, 0)))
            self.refuse(self.changed(((side, 1),), (0, 0)))
            self.refuse(self.changed(((1, 0), (0, 0), (side, 0)), (1, 0)))

    def test_a_row_that_the_asker_can_not_say(self):
        for row in (
            ((0, 0),),
            ((1, 3),),
            ((1, -1),),
            ((1, 0), (0, 0), (1, 0)),
            ((1, 0), (0, 0), (0, 2)),
            ((1, 0), (0, 0), (0, -1)),
            ((1, 2), (1, 0), (1, 0)),
        ):
            for step in ((0, 0), (0, 1), (1, 0), (1, 1)):
                self.refuse(self.changed(row, step))
                self.refuse({row: step})

    def test_a_row_in_which_the_answerer_says_something_else(self):
        self.refuse(self.changed(((1, 0), (0, 1), (0, 0)), (1, 0)))
        self.refuse(self.changed(((1, 0), (1, 1), (1, 0)), (0, 0)))

    def test_a_row_behind_silence(self):
        self.refuse(self.changed(((1, 1), (0, 0), (0, 0)), (0, 0)))
        self.refuse({((1, 0), (0, 0), (0, 1)): (1, 1)})

    def test_a_row_of_an_even_number_of_steps_or_none(self):
        for step in ((0, 0), (1, 0), (1, 1)):
            self.refuse({(): step})
            self.refuse(self.changed((), step))
            self.refuse(self.changed(((1, 0), (0, 0)), step))
            self.refuse(self.changed(((1, 2), (1, 0)), step))
            self.refuse(self.changed(((1, 1), (0, 0)), step))

    def test_a_row_that_leads_to_another_is_taken_out(self):
        self.refuse({row: step for row, step in MANNER.items() if row != ((1, 0),)})
        long = {((1, 0),): (0, 0), ((1, 0), (0, 0), (0, 0)): (0, 0), ((1, 0), (0, 0), (0, 0), (0, 0), (0, 0)): (0, 0)}
        self.assertIs(is_manner(deep(6), deep(1), long), True)
        for row in list(long)[:2]:
            with self.subTest(row=row):
                self.assertIs(is_manner(deep(6), deep(1), {key: long[key] for key in long if key != row}), False)

    def test_a_row_is_taken_out_that_leads_to_none(self):
        for row in (((1, 0), (0, 0), (0, 1)), ((1, 2),)):
            self.assertIs(is_manner(A, B, {key: MANNER[key] for key in MANNER if key != row}), True)

    def test_nothing_can_be_said_to_a_talk_that_is_over(self):
        for row in ((), ((1, 0),), ((0, 0),)):
            self.assertIs(is_manner(A, (), {row: (0, 0)}), False)
            self.assertIs(is_manner(A, (), {row: (1, 0)}), False)

    def test_of_other_talks(self):
        self.assertIs(is_manner(B, A, MANNER), False)
        self.assertIs(is_manner(A, B[:2], MANNER), False)
        self.assertIs(is_manner(A[1:], B, MANNER), False)

    def test_two_faults_do_not_hide_one_another(self):
        rows = list(MANNER)
        swapped = {**MANNER, rows[2]: (1, 5), ((1, 1),): (0, 0)}
        self.refuse(swapped)
        self.refuse({((1, 0),): (0, 7), ((1, 3),): (0, 0)})

    def test_every_small_change_of_every_manner_of_small_talks(self):
        grid = [(side, saying) for side in range(-1, 3) for saying in range(-1, 3)]
        told = {True: 0, False: 0}
        for a in talks_up_to(2):
            for b in talks_up_to(3):
                rows = all_rows(a, b) + [((1, 0), (0, 0), (1, 0)), ((0, 0),), ((1, 3),), ((1, -1),)]
                for manner in some_of(all_manners(a, b), 8):
                    self.assertIs(is_manner(a, b, manner), True)
                    others = [{key: manner[key] for key in manner if key != row} for row in manner]
                    others += [{**manner, row: step} for row in rows for step in grid]
                    for other in others:
                        expected = is_manner_by_its_words(a, b, other)
                        told[expected] += 1
                        self.assertIs(is_manner(a, b, other), expected, (a, b, other))
        self.assertGreater(min(told.values()), 100)


class NumbersWrittenOut(unittest.TestCase):
    def check(self, a, b, manners):
        self.assertEqual(how_many(a, b), len(manners))
        for number, manner in enumerate(manners):
            with self.subTest(number=number):
                self.assertEqual(manner_at(a, b, number), manner)
                self.assertEqual(number_of(a, b, manner), number)

    def test_to_and_from_talks_that_are_over(self):
        self.check((), (), [{}])
        self.check(broad(3), (), [{}])
        self.check(bush(2, 3), (), [{}])
        self.check((), broad(3), [{}])
        self.check((), deep(2), [{}, {((1, 0),): (1, 0)}])

    def test_silence_is_first_and_the_sides_follow_in_their_order(self):
        asked = ((1, 0),)
        self.check(broad(2), (broad(2),), [
            {}, {asked: (0, 0)}, {asked: (0, 1)}, {asked: (1, 0)}, {asked: (1, 1)},
        ])

    def test_the_first_step_of_the_asker_counts_most(self):
        first = ((1, 0),)
        second = ((1, 1),)
        self.check(((),), broad(2), [{}, {second: (0, 0)}, {first: (0, 0)}, {first: (0, 0), second: (0, 0)}])

    def test_choices_that_are_not_as_many_on_each_step(self):
        first = ((1, 0),)
        second = ((1, 1),)
        self.check(((),), (((),), ()), [
            {},
            {second: (0, 0)},
            {first: (0, 0)},
            {first: (0, 0), second: (0, 0)},
            {first: (1, 0)},
            {first: (1, 0), second: (0, 0)},
        ])
        self.check(((),), ((), ((),)), [
            {},
            {second: (0, 0)},
            {second: (1, 0)},
            {first: (0, 0)},
            {first: (0, 0), second: (0, 0)},
            {first: (0, 0), second: (1, 0)},
        ])

    def test_each_step_with_all_manners_for_what_follows_it(self):
        asked = ((1, 0),)
        in_a = asked + ((0, 0), (0, 0))
        in_b = asked + ((1, 0), (1, 0))
        self.check(deep(3), deep(3), [
            {},
            {asked: (0, 0)},
            {asked: (0, 0), in_a: (0, 0)},
            {asked: (0, 0), in_a: (1, 0)},
            {asked: (0, 0), in_a: (1, 0), in_a + ((1, 0), (1, 0)): (0, 0)},
            {asked: (1, 0)},
            {asked: (1, 0), in_b: (0, 0)},
            {asked: (1, 0), in_b: (0, 0), in_b + ((0, 0), (0, 0)): (0, 0)},
        ])


class Numbers(unittest.TestCase):
    def test_all_small_talks_gone_through(self):
        for a in talks_up_to(3):
            for b in talks_up_to(4):
                manners = all_manners(a, b)
                self.assertEqual(how_many(a, b), len(manners), (a, b))
                for number, manner in enumerate(manners):
                    self.assertEqual(manner_at(a, b, number), manner, (a, b, number))
                    self.assertEqual(number_of(a, b, manner), number, (a, b, number))

    def test_talks_that_go_deeper(self):
        for a, b in ((deep(4), deep(5)), (deep(5), deep(4)), (read("(((()))(()))"), read("((((())))())"))):
            manners = all_manners(a, b)
            self.assertEqual(how_many(a, b), len(manners))
            for number, manner in enumerate(manners):
                self.assertEqual(manner_at(a, b, number), manner)
                self.assertEqual(number_of(a, b, manner), number)

    def test_each_number_has_another_manner(self):
        a = read("((())())")
        b = read("((()())(()))")
        manners = [manner_at(a, b, number) for number in range(how_many(a, b))]
        self.assertEqual(len({tuple(sorted(manner.items())) for manner in manners}), len(manners))
        for manner in manners:
            self.assertIs(is_manner(a, b, manner), True)
            self.assertTrue(has_kinds_of_a_manner(manner))

    def numbers_of(self, many):
        return sorted({0, 1, many // 7, many // 3, many // 2, many - 2, many - 1} | {many * k // 23 for k in range(23)})

    def test_talks_of_twelve_sayings_and_those_made_of_them(self):
        a, b, c = TWELVE
        for one, other in (
            (a, b), (b, a), (c, b), (b, c), (from_to(a, b), c), (c, from_to(a, b)), (beside(b, c), a),
            (a, beside(b, c)), (from_to(b, c), from_to(c, a)), (beside(a, c), from_to(c, b)), (broad(12), broad(12)),
        ):
            many = how_many(one, other)
            self.assertGreater(many, 1000)
            for number in self.numbers_of(many):
                manner = manner_at(one, other, number)
                self.assertIs(is_manner(one, other, manner), True)
                self.assertEqual(number_of(one, other, manner), number)
            self.assertRaises(NoNumber, manner_at, one, other, many)

    def test_as_many_as_can_be_reckoned_otherwise(self):
        self.assertEqual(how_many(broad(12), broad(12)), 13 ** 12)
        self.assertEqual(how_many((), bush(3, 2)), 4 ** 3)
        self.assertEqual(how_many((), bush(2, 4)), (1 + 2 * 3 ** 2) ** 2)
        self.assertEqual(number_of(broad(12), broad(12), {((1, 0),): (0, 11)}), 12 * 13 ** 11)
        self.assertEqual(number_of(broad(12), broad(12), {((1, 11),): (0, 4)}), 5)

    def test_whole_numbers_are_told(self):
        self.assertIs(type(how_many((), ())), int)
        self.assertIs(type(how_many(A, B)), int)
        self.assertIs(type(number_of(A, B, {})), int)
        self.assertIs(type(number_of(A, B, MANNER)), int)

    def test_the_order_in_which_the_manner_was_filled_is_all_the_same(self):
        turned = dict(reversed(list(MANNER.items())))
        self.assertEqual(number_of(A, B, turned), number_of(A, B, MANNER))


class NumbersRefused(unittest.TestCase):
    def refuse(self, a, b, number):
        with self.assertRaises(NoNumber):
            manner_at(a, b, number)

    def test_below_nought(self):
        for a in talks_up_to(3):
            for b in talks_up_to(3):
                for number in (-1, -2, -how_many(a, b), -how_many(a, b) - 1, -(10 ** 5000)):
                    self.refuse(a, b, number)

    def test_from_how_many_on(self):
        for a in talks_up_to(3):
            for b in talks_up_to(3):
                many = how_many(a, b)
                self.assertIs(type(manner_at(a, b, many - 1)), dict)
                for number in (many, many + 1, 2 * many, many ** 2 + many, 10 ** 5000):
                    self.refuse(a, b, number)

    def test_a_refusal_leaves_nothing_behind(self):
        before = manner_at(A, B, 17)
        self.refuse(A, B, -1)
        self.refuse(A, B, 10 ** 30)
        self.assertEqual(manner_at(A, B, 17), before)


if __name__ == "__main__":
    unittest.main()
