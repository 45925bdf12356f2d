"""[26], [2] and [3]: kinds and worths as texts."""

import random
import unittest

from growjoin.errors import NoText
from growjoin.joins import bottom, is_kind, is_worth
from growjoin.texts import read_kind, read_worth, show_kind, show_worth
from helper import LAST, MOST, NAMES, ODD, PLAIN, SOME_KINDS, both, deep_tuple, each, kinds_up_to, worth_of

KINDS = [
    (NAMES, "names"),
    (MOST, "most"),
    (LAST, "last"),
    (each(NAMES), "each names"),
    (each(each(LAST)), "each each last"),
    (each(each(each(MOST))), "each each each most"),
    (both(NAMES, MOST), "both(names, most)"),
    (both(LAST, LAST), "both(last, last)"),
    (each(both(MOST, NAMES)), "each both(most, names)"),
    (both(each(NAMES), MOST), "both(each names, most)"),
    (both(MOST, each(NAMES)), "both(most, each names)"),
    (both(both(both(NAMES, MOST), LAST), each(each(LAST))), "both(both(both(names, most), last), each each last)"),
]
WORTHS = [
    (NAMES, (), "{}"),
    (NAMES, ("a",), "{a}"),
    (NAMES, ("a", "b"), "{a b}"),
    (NAMES, ("a", "ab", "b", "zzzzzzzz"), "{a ab b zzzzzzzz}"),
    (MOST, 0, "0"),
    (MOST, 7, "7"),
    (MOST, 10, "10"),
    (MOST, 10 ** 20, "100000000000000000000"),
    (MOST, 10 ** 60 - 1, "9" * 60),
    (LAST, (0, 0), "0@0"),
    (LAST, (1, 0), "1@0"),
    (LAST, (3, 12), "3@12"),
    (LAST, (10, -7), "10@-7"),
    (LAST, (10 ** 59, 1 - 10 ** 60), "1" + "0" * 59 + "@-" + "9" * 60),
    (each(NAMES), (), "[]"),
    (each(NAMES), (("a", ("b",)),), "[a: {b}]"),
    (each(MOST), (("a", 1), ("b", 20)), "[a: 1, b: 20]"),
    (each(LAST), (("a", (1, -1)), ("ab", (2, 0))), "[a: 1@-1, ab: 2@0]"),
    (each(each(MOST)), (("a", (("a", 1), ("b", 2))), ("c", (("d", 3),))), "[a: [a: 1, b: 2], c: [d: 3]]"),
    (both(NAMES, MOST), ((), 0), "({}, 0)"),
    (both(NAMES, MOST), (("a", "b"), 3), "({a b}, 3)"),
    (both(each(MOST), LAST), ((("x", 4),), (1, 2)), "([x: 4], 1@2)"),
    (each(both(MOST, NAMES)), (("a", (0, ("b",))), ("c", (1, ()))), "[a: (0, {b}), c: (1, {})]"),
    (both(both(NAMES, NAMES), MOST), ((("a",), ()), 5), "(({a}, {}), 5)"),
]
NO_KINDS = [
    "", " ", "name", "namess", "Names", "NAMES", " names", "names ", "na mes", "names\n", "mostlast", "most last", "each",
    "each ", "each  names", "eachnames", "each(names)", "each[names]", "Each names", "each names ", "each names most",
    "each, names", "both", "both()", "both(names)", "both(names,most)", "both(names,  most)", "both(names , most)",
    "both( names, most)", "both(names, most )", "both (names, most)", "both(names, most", "both(names, ", "both(names",
    "both(", "both(names, most))", "both(names, most) ", "both(names, most, last)", "both names, most", "(names, most)",
    "both(names most)", "both(, names)", "both(names, )", "both(each, names)", "each both", "most,", "0", "{}", "[]",
    "('names',)", "most0", "last@", "each each each each names", "each each each each each most",
    "each each each both(names, most)", "both(each each each names, most)", "both(names, each each each names)",
    "both(both(both(both(names, most), last), last), last)", "n\u00e4mes", "names\u00a0", "\uff4eames", "names\0",
]
NO_WORTHS = [
    (NAMES, [
        "", "{", "}", "a", "{ }", "{a", "a}", "{a b", "{ a}", "{a }", "{a  b}", "{a,b}", "{a, b}", "{b a}", "{a a}",
        "{a c b}", "{ab a}", "{A}", "{a1}", "{aaaaaaaaa}", "{a aaaaaaaaa}", "{-}", "{}}", "{{}", "{}{}", "{a} ", " {a}",
        "{a}\n", "{a\nb}", "{a\tb}", "[]", "[a]", "()", "0", "names", "{\u00e4}", "{a\u00a0b}", "('a',)",
    ]),
    (MOST, [
        "", " ", "-", "-0", "-1", "+1", "00", "01", "007", " 1", "1 ", "1 0", "1.0", "1,000", "1_000", "0x1", "1e3", "1@0",
        "a", "{}", "[]", "\u0661", "\u00b2", "1\u0661", "\uff11", "1\n", "True", "None", "9" * 61, "1" + "0" * 60, "0" * 60,
        "0" * 61, "--1",
    ]),
    (LAST, [
        "", "@", "1", "1@", "@1", "0@1", "0@-1", "0@-0", "1@-0", "1@--1", "1@+1", "1@01", "01@1", "1@00", "00@0", "-1@1",
        "-0@0", "+1@1", "1 @1", "1@ 1", " 1@1", "1@1 ", "1@1@1", "1@@1", "1@-", "(1, 1)", "1,1", "1@- 1", "1@-01",
        "1@" + "9" * 61, "1@-" + "9" * 61, "9" * 61 + "@1", "1@1.0", "1@a", "a@1", "\u0661@1", "1@\u0661",
    ]),
    (each(MOST), [
        "", "[", "]", "[ ]", "[a]", "[a:]", "[a: ]", "[a:1]", "[a : 1]", "[a:  1]", "[a: 1", "a: 1", "a: 1]", "[a: 1 ]",
        "[ a: 1]", "[a: 1,b: 2]", "[a: 1,  b: 2]", "[a: 1 , b: 2]", "[a: 1 b: 2]", "[a: 1, ]", "[a: 1,]", "[, a: 1]",
        "[b: 1, a: 2]", "[a: 1, a: 2]", "[a: 1, a: 1]", "[a: 0]", "[a: 0, b: 1]", "[a: 1, b: 0]", "[: 1]", "[aaaaaaaaa: 1]",
        "[A: 1]", "[1: 1]", "[a: 01]", "[a: -1]", "[a: 1@1]", "[a: {}]", "[]]", "[[]", "[] ", " []", "[]\n", "{}", "()",
        "[a: 1]]", "[a: 1][b: 2]", "[a: 1]more", "[a: " + "9" * 61 + "]", "[a, b]", "[a: 1; b: 2]", "[a= 1]", "[ab: 1, a: 1]",
    ]),
    (each(NAMES), ["[a: {}]", "[a: {b}, c: {}]", "[a: {b a}]", "[a: {b]}", "[a: [b]]", "[a: {b}", "[a: 1]"]),
    (each(LAST), ["[a: 0@0]", "[a: 0@1]", "[a: 1@-0]", "[a: 1]", "[a: 1@1, b: 0@0]"]),
    (each(each(MOST)), ["[a: []]", "[a: [b: 0]]", "[a: [b: 1]", "[a: [b: 1], c: []]", "[a: [b: 1]]]", "[a: 1]"]),
    (each(both(NAMES, MOST)), ["[a: ({}, 0)]", "[a: ({b}, 1), c: ({}, 0)]", "[a: ({b}, 1]", "[a: {b}, 1]"]),
    (both(NAMES, MOST), [
        "", "(", ")", "()", "({})", "({}, )", "(, 0)", "({},0)", "({},  0)", "({} , 0)", "( {}, 0)", "({}, 0 )", "({}, 0",
        "{}, 0", "{}, 0)", "(0, {})", "({}, 0, 0)", "({}, 0))", "(({}, 0)", "({}, 0) ", " ({}, 0)", "({b a}, 0)", "({}, 00)",
        "({}, -1)", "[{}, 0]", "({}, 0)({}, 0)", "({}; 0)", "({} 0)", "({}, " + "9" * 61 + ")",
    ]),
    (both(both(MOST, MOST), MOST), ["(0, (0, 0))", "((0, 0))", "((0, 0), 0", "(0, 0, 0)", "((0, 0),0)", "((0, 0), 0))"]),
]
# None of these is a text; some are what a text writes.
NO_TEXTS = [0, 1, -1, True, False, 10 ** 21, (), ("a",), NAMES, each(NAMES), (1, 2), (0, 0), [], ["{}"], b"{}", b"names", *ODD]


class Shows(unittest.TestCase):
    def test_kinds(self):
        for kind, text in KINDS:
            self.assertEqual(show_kind(kind), text)

    def test_worths(self):
        for kind, worth, text in WORTHS:
            self.assertEqual(show_worth(kind, worth), text)

    def test_numbers_that_cannot_be_read_back_are_written(self):
        self.assertEqual(show_worth(MOST, 10 ** 60), "1" + "0" * 60)
        self.assertEqual(show_worth(LAST, (10 ** 60, -10 ** 60)), "1" + "0" * 60 + "@-1" + "0" * 60)

    def test_argument_names(self):
        self.assertEqual(show_kind(kind=MOST), "most")
        self.assertEqual(show_worth(worth=3, kind=MOST), "3")
        self.assertEqual(read_kind(text="most"), MOST)
        self.assertEqual(read_worth(text="3", kind=MOST), 3)


class Reads(unittest.TestCase):
    def test_kinds(self):
        for kind, text in KINDS:
            self.assertEqual(read_kind(text), kind)

    def test_worths(self):
        for kind, worth, text in WORTHS:
            self.assertEqual(read_worth(kind, text), worth)
            self.assertIs(type(read_worth(kind, text)), type(worth))

    def test_all_kinds_are_read_back(self):
        kinds = kinds_up_to(3)
        deep = [each(kind) for kind in kinds] + [both(kind, other) for kind in kinds[::7] for other in kinds[::5]]
        texts = set()
        for kind in kinds + deep:
            texts.add(show_kind(kind))
            self.assertEqual(read_kind(show_kind(kind)), kind)
        # Each has its own writing, and one only.
        self.assertEqual(len(texts), len(set(kinds + deep)))

    def test_bottoms_are_read_back(self):
        for kind in kinds_up_to(3):
            self.assertEqual(read_worth(kind, show_worth(kind, bottom(kind))), bottom(kind))

    def test_many_worths_are_read_back(self):
        chance = random.Random(261)
        kinds = SOME_KINDS + kinds_up_to(3)
        for _ in range(4000):
            kind = chance.choice(kinds)
            worth, other = worth_of(chance, kind), worth_of(chance, kind)
            text = show_worth(kind, worth)
            self.assertEqual(read_worth(kind, text), worth)
            self.assertEqual(text == show_worth(kind, other), worth == other)

    def test_numbers_of_up_to_sixty_figures(self):
        chance = random.Random(262)
        for figures in range(1, 61):
            for number in (10 ** (figures - 1), 10 ** figures - 1, chance.randrange(10 ** (figures - 1), 10 ** figures)):
                self.assertEqual(read_worth(MOST, show_worth(MOST, number)), number)
                for worth in ((number, number), (number, -number), (1, -number)):
                    self.assertEqual(read_worth(LAST, show_worth(LAST, worth)), worth)

    def test_great_worths(self):
        names = tuple(sorted(first + second + third for first in "abc" for second in "abcdefghijklmnopqrstuvwxyz"
                             for third in "abcdefghijklmnopqrstuvwxyz"))[:2000]
        self.assertEqual(read_worth(NAMES, show_worth(NAMES, names)), names)
        table = tuple((name, (("a", (at + 1, -at)),)) for at, name in enumerate(names))
        self.assertEqual(read_worth(each(each(LAST)), show_worth(each(each(LAST)), table)), table)


class Refusals(unittest.TestCase):
    def refuse_kind(self, text):
        with self.assertRaises(NoText) as caught:
            read_kind(text)
        self.assertIs(type(caught.exception), NoText)

    def refuse_worth(self, kind, text):
        with self.assertRaises(NoText) as caught:
            read_worth(kind, text)
        self.assertIs(type(caught.exception), NoText)

    def test_texts_that_write_no_kind(self):
        for text in NO_KINDS:
            with self.subTest(text=text):
                self.refuse_kind(text)

    def test_texts_that_write_no_worth_of_the_kind(self):
        for kind, texts in NO_WORTHS:
            for text in texts:
                with self.subTest(kind=kind, text=text):
                    self.refuse_worth(kind, text)

    def test_what_is_no_text(self):
        for thing in NO_TEXTS:
            self.refuse_kind(thing)
            for kind in PLAIN + [each(MOST), both(NAMES, NAMES)]:
                self.refuse_worth(kind, thing)
        self.refuse_kind(deep_tuple())
        self.refuse_worth(NAMES, deep_tuple())

    def test_a_kind_or_a_worth_itself(self):
        for kind, text in KINDS:
            self.refuse_kind(kind)
        for kind, worth, text in WORTHS:
            self.refuse_worth(kind, worth)

    def test_a_worth_of_another_kind(self):
        self.refuse_worth(MOST, "1@1")
        self.refuse_worth(LAST, "1")
        self.refuse_worth(NAMES, "[]")
        self.refuse_worth(each(NAMES), "{}")
        self.refuse_worth(both(MOST, LAST), "(1@1, 1)")

    def test_very_long_texts_and_ones_with_very_many_brackets(self):
        many = 100000
        kinds = PLAIN + [each(NAMES), each(MOST), each(each(each(LAST))), both(NAMES, MOST), both(both(MOST, MOST), MOST)]
        for sign in "{[(}])a 0917-@,:~":
            self.refuse_kind(sign * many)
            for kind in kinds:
                self.refuse_worth(kind, sign * many)
        for start in ("each ", "both(", "both(names, ", "names, ", "each both(most, "):
            self.refuse_kind(start * many)
            self.refuse_kind(start * many + "names")
        for start in ("[a: ", "({}, ", "(0, ", "((", "{a ", "[a: 1, ", "a b "):
            for kind in kinds:
                self.refuse_worth(kind, start * many)
        self.refuse_kind("names" + " " * many)
        self.refuse_worth(NAMES, "{" + "a " * many + "a}")
        self.refuse_worth(NAMES, "{" + "a" * many + "}")
        self.refuse_worth(LAST, "1@-" + "1" * many)
        self.refuse_worth(MOST, "1" * 5000)

    def test_texts_put_otherwise(self):
        """A text is read only where it is the one writing of what is read."""
        chance = random.Random(263)
        signs = "{}[](), :@-0129abz~ "
        refused = 0
        for _ in range(12000):
            kind = chance.choice(SOME_KINDS)
            text = put_text_otherwise(chance, signs, show_worth(kind, worth_of(chance, kind)))
            try:
                worth = read_worth(kind, text)
            except NoText:
                refused += 1
                continue
            self.assertTrue(is_worth(kind, worth))
            self.assertEqual(show_worth(kind, worth), text)
        self.assertGreater(refused, 6000)

    def test_texts_of_kinds_put_otherwise(self):
        chance = random.Random(264)
        refused = 0
        for _ in range(6000):
            text = put_text_otherwise(chance, "(), eachbotnmsl", show_kind(chance.choice(SOME_KINDS)))
            try:
                kind = read_kind(text)
            except NoText:
                refused += 1
                continue
            self.assertTrue(is_kind(kind))
            self.assertEqual(show_kind(kind), text)
        self.assertGreater(refused, 3000)


def put_text_otherwise(chance, signs, text):
    """A sign more, a sign less, another sign, or two parts exchanged, once or twice."""
    for _ in range(chance.choice([1, 1, 2])):
        at = chance.randrange(len(text) + 1)
        later = chance.randrange(at, len(text) + 1)
        text = chance.choice([
            text[:at] + chance.choice(signs) + text[at:], text[:at] + text[at + 1:],
            text[:at] + chance.choice(signs) + text[at + 1:], text[later:] + text[at:later] + text[:at],
        ])
    return text


if __name__ == "__main__":
    unittest.main()
