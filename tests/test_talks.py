"""Points [1], [2] and [3], with the interface of parleyhall/talks.py."""

import inspect
import itertools
import unittest

from made_talks import bush, broad, comb, deep, is_of_tuples, talks_up_to, talks_with
from parleyhall.errors import NotRead
from parleyhall.talks import how_many_sayings, read, written

# Talks at the edge of [2] and somewhat beyond it, each with its number of sayings.
LARGE = (
    (deep(200), 200),
    (broad(200), 200),
    (comb(100), 200),
    (bush(2, 6), 126),
    (bush(13, 2), 182),
    (bush(5, 3), 155),
    ((deep(99), broad(99)), 200),
    ((broad(99), deep(99)), 200),
    (deep(260), 260),
    (broad(260), 260),
)


class Arguments(unittest.TestCase):
    def test_names(self):
        self.assertEqual(list(inspect.signature(how_many_sayings).parameters), ["talk"])
        self.assertEqual(list(inspect.signature(written).parameters), ["talk"])
        self.assertEqual(list(inspect.signature(read).parameters), ["text"])

    def test_by_name(self):
        self.assertEqual(how_many_sayings(talk=((),)), 1)
        self.assertEqual(written(talk=((),)), "(())")
        self.assertEqual(read(text="(())"), ((),))


class HowMany(unittest.TestCase):
    def test_written_out(self):
        for talk, sayings in (
            ((), 0),
            (((),), 1),
            (((), ()), 2),
            ((((),),), 2),
            (((), ((),)), 3),
            ((((), ()), ((), ())), 6),
            (((((), ()),), (), (((),),)), 8),
        ):
            with self.subTest(talk=talk):
                self.assertEqual(how_many_sayings(talk), sayings)

    def test_all_small_talks(self):
        for sayings in range(8):
            for talk in talks_with(sayings):
                self.assertEqual(how_many_sayings(talk), sayings)

    def test_large(self):
        for place, (talk, sayings) in enumerate(LARGE):
            with self.subTest(place=place):
                self.assertEqual(how_many_sayings(talk), sayings)

    def test_a_number_is_told(self):
        self.assertIs(type(how_many_sayings(())), int)
        self.assertIs(type(how_many_sayings(((),))), int)

    def test_one_talk_that_stands_twice_is_counted_twice(self):
        part = ((), ((),))
        self.assertEqual(how_many_sayings((part, part)), 8)


class Written(unittest.TestCase):
    def test_written_out(self):
        for talk, text in (
            ((), "()"),
            (((),), "(())"),
            (((), ()), "(()())"),
            (((), ((),)), "(()(()))"),
            ((((),), ()), "((())())"),
            ((((), ((),)), (), ((),)), "((()(()))()(()))"),
        ):
            with self.subTest(text=text):
                self.assertEqual(written(talk), text)
                self.assertEqual(read(text), talk)

    def test_deep_and_broad(self):
        for sayings in (1, 12, 200, 260):
            with self.subTest(sayings=sayings):
                self.assertEqual(written(deep(sayings)), "(" * (sayings + 1) + ")" * (sayings + 1))
                self.assertEqual(written(broad(sayings)), "(" + "()" * sayings + ")")
                self.assertEqual(written(comb(sayings)), "(()" * sayings + "()" + ")" * sayings)

    def test_a_text_is_told(self):
        self.assertIs(type(written(())), str)


class ReadBack(unittest.TestCase):
    def test_all_small_talks(self):
        for talk in talks_up_to(7):
            again = read(written(talk))
            self.assertEqual(again, talk)
            self.assertTrue(is_of_tuples(again))

    def test_large(self):
        for place, (talk, sayings) in enumerate(LARGE):
            with self.subTest(place=place):
                again = read(written(talk))
                self.assertEqual(again, talk)
                self.assertTrue(is_of_tuples(again))
                self.assertEqual(len(written(talk)), 2 * sayings + 2)

    def test_texts_at_the_edge_and_beyond(self):
        for half in (250, 300):
            with self.subTest(half=half):
                self.assertEqual(read("(" * half + ")" * half), deep(half - 1))
                self.assertEqual(read("(" + "()" * (half - 1) + ")"), broad(half - 1))


class Refused(unittest.TestCase):
    def refuse(self, text):
        with self.subTest(text=text):
            with self.assertRaises(NotRead):
                read(text)

    def test_the_empty_text(self):
        self.refuse("")

    def test_a_bracket_too_many_or_too_few(self):
        for text in ("(", ")", "(()", "())", "((())", "(()))", "(()(())", "(()(())))", "(((((", ")))))"):
            self.refuse(text)

    def test_two_texts_behind_one_another(self):
        for text in ("()()", "()(())", "(())()", "()()()", "(()(()))(()(()))"):
            self.refuse(text)

    def test_a_bracket_that_closes_ahead_of_its_opening(self):
        for text in (")(", "())(", "())(()", ")()(", "(()))(", "()())(()"):
            self.refuse(text)

    def test_large(self):
        for text in (
            "(" * 250 + ")" * 249,
            "(" * 249 + ")" * 250,
            "()" * 250,
            "(" * 500,
            ")" * 500,
            ")" + "()" * 249 + "(",
            "(" * 249 + " " + ")" * 250,
        ):
            self.refuse(text)

    def test_other_signs_at_any_place(self):
        others = [chr(code) for code in range(ord(" "), ord("~") + 1) if chr(code) not in "()"]
        for talk in ("()", "(())", "(()(()))"):
            for sign in others:
                for place in range(len(talk) + 1):
                    self.refuse(talk[:place] + sign + talk[place:])
                for place in range(len(talk)):
                    self.refuse(talk[:place] + sign + talk[place + 1:])

    def test_other_signs_alone(self):
        for text in (" ", "  ", "a", "talk", "[]", "{}", "None", "0", "((),)", "( )", " ()", "() "):
            self.refuse(text)

    def test_every_short_text_of_brackets(self):
        talks = {written(talk): talk for talk in talks_up_to(5)}
        for length in range(13):
            for signs in itertools.product("()", repeat=length):
                text = "".join(signs)
                if text in talks:
                    self.assertEqual(read(text), talks[text])
                else:
                    self.assertRaises(NotRead, read, text)


class NothingKept(unittest.TestCase):
    def test_a_refusal_leaves_nothing_behind(self):
        self.assertRaises(NotRead, read, "(((")
        self.assertEqual(read("()"), ())
        self.assertRaises(NotRead, read, ")")
        self.assertEqual(read("(()())"), ((), ()))

    def test_the_same_again_and_again(self):
        talk = ((), ((),))
        for _ in range(3):
            self.assertEqual(how_many_sayings(talk), 3)
            self.assertEqual(written(talk), "(()(()))")
            self.assertEqual(read("(()(()))"), talk)
        self.assertEqual(talk, ((), ((),)))


if __name__ == "__main__":
    unittest.main()
