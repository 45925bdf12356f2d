"""[5], [6] and [7]: kinds, worths, joins and pieces."""

import itertools
import random
import unittest

from growjoin.joins import bottom, is_kind, is_worth, join, lack, pieces, under
from helper import (
    LAST, MOST, NAMES, ODD, PLAIN, SOME_KINDS, both, deep_tuple, each, flat, joined, kinds_up_to, unflat, worth_of,
)

BAD_NAMES = [
    "", "abcdefghi", "A", "aB", "a1", "1", "a b", " ", "a ", "a-b", "a_b", "a\n", "\n", "`", "{", "\u00e9",
    "\u00df", "\u0430", "a\u0301", "\x00", b"a", None, 1, True, ("a",), ["a"], *ODD,
]


def spoiled(thing, odd):
    """The thing with the odd one in its place, or in the place of any of its parts, at any depth."""
    yield odd
    if isinstance(thing, tuple):
        for at, part in enumerate(thing):
            for worse in spoiled(part, odd):
                yield thing[:at] + (worse,) + thing[at + 1:]


def with_lists(thing):
    """The thing with a list in the place of one tuple, at any depth."""
    if isinstance(thing, tuple):
        yield list(thing)
        for at, part in enumerate(thing):
            for worse in with_lists(part):
                yield thing[:at] + (worse,) + thing[at + 1:]


def with_truths(thing):
    """The thing with a truth in the place of one number, at any depth."""
    if isinstance(thing, int):
        yield True
        yield False
    elif isinstance(thing, tuple):
        for at, part in enumerate(thing):
            for worse in with_truths(part):
                yield thing[:at] + (worse,) + thing[at + 1:]


def wraps():
    """Ways to put a worth into a greater one: tuples (depth, wrapped kind, wrapped worth) of functions."""
    yield 0, lambda kind: kind, lambda worth: worth
    for depth in (1, 2, 3):
        for ways in itertools.product(("each", "left", "right"), repeat=depth):
            yield depth, lambda kind, ways=ways: wrap_kind(kind, ways), lambda worth, ways=ways: wrap_worth(worth, ways)


def wrap_kind(kind, ways):
    for way in ways:
        kind = {"each": each(kind), "left": both(kind, MOST), "right": both(NAMES, kind)}[way]
    return kind


def wrap_worth(worth, ways):
    for way in ways:
        worth = {"each": (("k", worth),), "left": (worth, 4), "right": (("q",), worth)}[way]
    return worth


GOOD = {
    NAMES: [("a",), ("z",), ("abcdefgh",), ("a", "b"), ("a", "ab", "b"), ("y", "z"), ("aa", "ab", "ac")],
    MOST: [1, 2, 9, 10 ** 20, 10 ** 21 - 1, 10 ** 30],
    LAST: [(1, 0), (1, 1), (1, -1), (5, 10 ** 20), (10 ** 20, -10 ** 20), (2, 0)],
    each(MOST): [(("a", 1),), (("a", 1), ("b", 2)), (("a", 3), ("ab", 1), ("b", 1))],
    each(NAMES): [(("a", ("b",)),), (("a", ("a", "b")), ("b", ("a",)))],
    each(LAST): [(("a", (1, 0)),), (("x", (1, -4)), ("y", (2, 7)))],
    both(MOST, NAMES): [(0, ("a",)), (1, ()), (2, ("a", "b"))],
    both(LAST, LAST): [((0, 0), (1, 3)), ((2, 2), (0, 0)), ((1, 1), (1, 1))],
}

LEAST = {NAMES: (), MOST: 0, LAST: (0, 0), each(MOST): (), each(NAMES): (), each(LAST): (),
         both(MOST, NAMES): (0, ()), both(LAST, LAST): ((0, 0), (0, 0))}

BAD = {
    NAMES: [("b", "a"), ("a", "a"), ("a", "b", "b"), ("a", "c", "b"), ("b", "ab"), "a", "", "ab", ["a"], {"a"},
            (("a",),), 0, 1, True, False, (0,), *[(name,) for name in BAD_NAMES], *[("a", name) for name in BAD_NAMES]],
    MOST: [-1, -10 ** 20, True, False, "1", "", (), (1,), 1.0, "a"],
    LAST: [(0, 1), (0, -1), (-1, 0), (-1, 5), (-1, -1), (True, 1), (1, True), (False, 0), (0, False), (False, False),
           (), (1,), (0,), (1, 1, 1), (0, 0, 0), [1, 1], [0, 0], "ab", (1, "a"), ("a", 1), (1, None), (None, 1),
           (1.0, 1), (1, 1.0), 0, 1, True, ((1, 1), (1, 1)), *[(1, odd) for odd in ODD], *[(odd, 1) for odd in ODD]],
    each(MOST): [(("a", 0),), (("a", 1), ("b", 0)), (("b", 1), ("a", 1)), (("a", 1), ("a", 2)), (("a", 1), ("a", 1)),
                 (("a",),), (("a", 1, 1),), ((),), ("a", 1), (("a", -1),), (("a", True),), (["a", 1],), [("a", 1)],
                 {"a": 1}, (("a", (1,)),), (("a", "b"),), "ab", ("ab",), 0, 1, (0,), (1,), True, ((1, "a"),),
                 *[((name, 1),) for name in BAD_NAMES], *[(odd,) for odd in ODD], *[(("a", odd),) for odd in ODD]],
    each(NAMES): [(("a", ()),), (("a", ("b",)), ("b", ())), (("a", ["b"]),), (("a", "b"),), (("a", ("b", "a")),)],
    each(LAST): [(("a", (0, 0)),), (("a", (0, 1)),), (("a", (1,)),), (("a", [1, 1]),), (("a", (1, 1)), ("b", (0, 0)))],
    both(MOST, NAMES): [(), (1,), (1, (), ()), ((), 1), [1, ()], (1, []), (-1, ()), (True, ()), (1, ("b", "a")), 1,
                        (None, ()), (1, None), ("a", ("a",)), "ab", ((1, ()),)],
    both(LAST, LAST): [((0, 0),), ((0, 0), (0, 1)), ((-1, 0), (0, 0)), ((1, 1), [1, 1]), (1, 1), ((1, 1), (1, 1), ())],
}


class Kinds(unittest.TestCase):
    def test_all_kinds_of_three_tuples_and_fewer(self):
        kinds = kinds_up_to(3)
        self.assertEqual(len(set(kinds)), 243)
        for kind in kinds:
            self.assertIs(is_kind(kind), True)

    def test_four_tuples_but_not_five(self):
        for kind in kinds_up_to(3):
            for four in [each(kind), both(kind, MOST), both(LAST, kind), both(kind, kind)]:
                self.assertIs(is_kind(four), True)
        four = each(each(each(NAMES)))
        for deep in [four, both(both(both(MOST, LAST), NAMES), MOST), both(NAMES, both(MOST, each(LAST)))]:
            self.assertIs(is_kind(deep), True)
            for five in [each(deep), both(deep, MOST), both(MOST, deep), both(deep, deep)]:
                self.assertIs(is_kind(five), False)
                self.assertIs(is_kind(each(five)), False)

    def test_far_too_deep(self):
        self.assertIs(is_kind(deep_tuple()), False)

    def test_wrong_lengths(self):
        for kind in [(), ("each",), ("both",), ("both", MOST), ("names", MOST), ("most", 0), ("last", LAST),
                     ("names", ()), ("names", "names"), ("each", MOST, MOST), ("both", MOST, MOST, MOST)]:
            self.assertIs(is_kind(kind), False)
            self.assertIs(is_kind(each(kind)), False)
            self.assertIs(is_kind(both(NAMES, kind)), False)

    def test_wrong_words(self):
        for word in ["", "name", "Names", "names ", "NAMES", "least", "every", "any", b"names", 0, 1, True, ("names",),
                     *ODD]:
            self.assertIs(is_kind((word,)), False)
            self.assertIs(is_kind((word, MOST)), False)
            self.assertIs(is_kind((word, MOST, MOST)), False)

    def test_other_things(self):
        for thing in [*ODD, True, False, 0, 1, "names", "", "most", ["names"], ["most"], {"names"}, (None,), ("n",)]:
            self.assertIs(is_kind(thing), False)

    def test_odd_parts_at_any_depth(self):
        for kind in SOME_KINDS:
            for odd in [*ODD, True, False, 0, 3, "", "x", (), ((),), ("x",), ["names"]]:
                for worse in spoiled(kind, odd):
                    self.assertIs(is_kind(worse), False)

    def test_lists_at_any_depth(self):
        for kind in SOME_KINDS:
            for worse in with_lists(kind):
                self.assertIs(is_kind(worse), False)

    def test_argument_name(self):
        self.assertIs(is_kind(thing=MOST), True)


class Worths(unittest.TestCase):
    def test_good_ones_at_all_depths(self):
        for kind, worths in GOOD.items():
            for depth, wider, greater in wraps():
                if not is_kind(wider(kind)):
                    continue
                for worth in worths:
                    self.assertIs(is_worth(wider(kind), greater(worth)), True, (wider(kind), greater(worth)))

    def test_bad_ones_at_all_depths(self):
        for kind, things in BAD.items():
            for depth, wider, greater in wraps():
                if not is_kind(wider(kind)):
                    continue
                for thing in things + ODD:
                    self.assertIs(is_worth(wider(kind), greater(thing)), False)

    def test_bottoms_are_worths_but_not_within_a_table(self):
        for kind, least in LEAST.items():
            self.assertIs(is_worth(kind, least), True)
            self.assertIs(is_worth(both(kind, MOST), (least, 1)), True)
            self.assertIs(is_worth(both(MOST, kind), (1, least)), True)
            self.assertIs(is_worth(each(kind), (("a", least),)), False)
            self.assertIs(is_worth(each(each(kind)), (("a", ()),)), False)
            self.assertIs(is_worth(each(each(kind)), (("a", (("b", least),)),)), False)
            self.assertIs(is_worth(each(both(kind, MOST)), (("a", (least, 0)),)), False)
            self.assertIs(is_worth(each(both(kind, MOST)), (("a", (least, 1)),)), True)
            self.assertIs(is_worth(both(MOST, each(kind)), (0, (("a", least),))), False)

    def test_spoiled_at_any_depth(self):
        chance = random.Random(5)
        for kind in SOME_KINDS:
            for _ in range(6):
                worth = worth_of(chance, kind)
                self.assertIs(is_worth(kind, worth), True)
                for odd in [*ODD, "A", "", -1.5]:
                    for worse in spoiled(worth, odd):
                        self.assertIs(is_worth(kind, worse), False)
                for worse in [*with_lists(worth), *with_truths(worth)]:
                    self.assertIs(is_worth(kind, worse), False)

    def test_a_worth_of_one_kind_is_not_one_of_another(self):
        self.assertIs(is_worth(NAMES, 1), False)
        self.assertIs(is_worth(MOST, ("a",)), False)
        self.assertIs(is_worth(LAST, 3), False)
        self.assertIs(is_worth(each(NAMES), ("a",)), False)
        self.assertIs(is_worth(NAMES, (("a", ("b",)),)), False)
        self.assertIs(is_worth(both(MOST, MOST), 1), False)
        self.assertIs(is_worth(both(MOST, NAMES), (("a",), 1)), False)

    def test_far_too_deep(self):
        for kind in SOME_KINDS:
            self.assertIs(is_worth(kind, deep_tuple()), False)

    def test_worths_of_many_parts(self):
        many = tuple(sorted(spelled(number) for number in range(2000)))
        self.assertIs(is_worth(NAMES, many), True)
        self.assertIs(is_worth(NAMES, many + many[-1:]), False)
        self.assertIs(is_worth(NAMES, many[1:2] + many), False)
        self.assertIs(is_worth(each(LAST), tuple((name, (1, 0)) for name in many)), True)
        self.assertIs(is_worth(each(LAST), tuple((name, (1, 0)) for name in many[:-1]) + ((many[-1], (0, 0)),)), False)

    def test_argument_names(self):
        self.assertIs(is_worth(thing=3, kind=MOST), True)


def spelled(number):
    """A name for a number, with four letters."""
    return "".join("abcdefghij"[int(figure)] for figure in f"{number:04d}")


class Joins(unittest.TestCase):
    def test_bottoms(self):
        for kind, least in LEAST.items():
            self.assertEqual(bottom(kind), least)
        self.assertEqual(bottom(both(both(LAST, NAMES), each(each(MOST)))), (((0, 0), ()), ()))
        for kind in kinds_up_to(3):
            self.assertIs(is_worth(kind, bottom(kind)), True)
            self.assertEqual(flat(kind, bottom(kind)), {})

    def test_names(self):
        self.assertEqual(join(NAMES, ("b",), ("a",)), ("a", "b"))
        self.assertEqual(join(NAMES, ("a", "c"), ("ab", "b", "c")), ("a", "ab", "b", "c"))

    def test_most(self):
        self.assertEqual(join(MOST, 3, 10), 10)
        self.assertEqual(join(MOST, 10, 3), 10)

    def test_last(self):
        self.assertEqual(join(LAST, (1, 9), (2, -9)), (2, -9))
        self.assertEqual(join(LAST, (2, -9), (1, 9)), (2, -9))
        self.assertEqual(join(LAST, (10, 0), (9, 5)), (10, 0))
        self.assertEqual(join(LAST, (0, 0), (1, -5)), (1, -5))

    def test_last_of_one_stamp(self):
        self.assertEqual(join(LAST, (3, 4), (3, 5)), (3, 5))
        self.assertEqual(join(LAST, (3, 5), (3, 4)), (3, 5))
        self.assertEqual(join(LAST, (3, -5), (3, -4)), (3, -4))
        self.assertIs(under(LAST, (3, 4), (3, 5)), True)
        self.assertIs(under(LAST, (3, 5), (3, 4)), False)

    def test_each(self):
        self.assertEqual(join(each(MOST), (("b", 1), ("c", 5)), (("a", 2), ("c", 3))), (("a", 2), ("b", 1), ("c", 5)))
        self.assertEqual(join(each(NAMES), (("k", ("b",)),), (("k", ("a",)),)), (("k", ("a", "b")),))
        nested = join(each(each(LAST)), (("k", (("x", (1, 1)),)),), (("k", (("x", (2, 0)), ("y", (1, 7)))),))
        self.assertEqual(nested, (("k", (("x", (2, 0)), ("y", (1, 7)))),))

    def test_both(self):
        self.assertEqual(join(both(MOST, NAMES), (1, ("b",)), (2, ())), (2, ("b",)))
        self.assertEqual(join(both(LAST, MOST), ((1, 1), 9), ((2, 0), 3)), ((2, 0), 9))

    def test_under(self):
        for kind, one, other, told in [
            (NAMES, ("a",), ("a", "b"), True), (NAMES, ("a", "b"), ("a",), False), (NAMES, ("a",), ("b",), False),
            (MOST, 1, 1, True), (MOST, 1, 2, True), (MOST, 2, 1, False),
            (LAST, (1, 9), (2, 0), True), (LAST, (2, 0), (1, 9), False), (LAST, (0, 0), (1, -1), True),
            (each(MOST), (("a", 1),), (("a", 2), ("b", 1)), True), (each(MOST), (("a", 3),), (("a", 2),), False),
            (each(MOST), (("a", 1),), (("b", 2),), False),
            (both(MOST, MOST), (1, 2), (2, 2), True), (both(MOST, MOST), (1, 2), (2, 1), False),
        ]:
            self.assertIs(under(kind, one, other), told)

    def test_joins_of_many_worths(self):
        chance = random.Random(6)
        for kind in SOME_KINDS + [chance.choice(kinds_up_to(3)) for _ in range(60)]:
            for _ in range(25):
                self.check_join(kind, worth_of(chance, kind), worth_of(chance, kind), worth_of(chance, kind))

    def check_join(self, kind, one, other, third):
        least = bottom(kind)
        whole = join(kind, one, other)
        self.assertIs(is_worth(kind, whole), True)
        self.assertEqual(whole, flat_join(kind, one, other))
        self.assertEqual(whole, join(kind, other, one))
        self.assertEqual(join(kind, one, one), one)
        self.assertEqual(join(kind, one, least), one)
        self.assertEqual(join(kind, least, one), one)
        self.assertEqual(join(kind, whole, third), join(kind, one, join(kind, other, third)))
        self.assertIs(under(kind, one, other), whole == other)
        self.assertIs(under(kind, one, other), flat_under(kind, one, other))
        for part in [least, one, other, whole]:
            self.assertIs(under(kind, part, whole), True)
        self.assertIs(under(kind, whole, least), whole == least)

    def test_many_parts(self):
        evens = tuple(sorted(spelled(number) for number in range(0, 4000, 2)))
        threes = tuple(sorted(spelled(number) for number in range(0, 6000, 3)))
        whole = tuple(sorted(set(evens) | set(threes)))
        self.assertEqual(join(NAMES, evens, threes), whole)
        self.assertEqual(lack(NAMES, evens, threes), tuple(sorted(set(evens) - set(threes))))
        self.assertIs(under(NAMES, evens, whole), True)
        self.assertIs(under(NAMES, whole, evens), False)
        one = tuple((name, (1, 4)) for name in evens)
        other = tuple((name, (2, 3)) for name in threes)
        table = join(each(LAST), one, other)
        self.assertEqual(table, tuple((name, (2, 3) if name in set(threes) else (1, 4)) for name in whole))
        self.assertEqual(lack(each(LAST), one, other), tuple((n, (1, 4)) for n in evens if n not in set(threes)))
        self.assertEqual(pieces(each(LAST), one), [(entry,) for entry in one])
        self.assertIs(under(each(LAST), one, table), True)

    def test_argument_names(self):
        self.assertEqual(bottom(kind=MOST), 0)
        self.assertEqual(join(other=2, one=1, kind=MOST), 2)
        self.assertIs(under(other=2, one=1, kind=MOST), True)
        self.assertEqual(pieces(worth=2, kind=MOST), [2])
        self.assertEqual(lack(other=1, one=2, kind=MOST), 2)


def flat_join(kind, one, other):
    places = flat(kind, one)
    for place, there in flat(kind, other).items():
        places[place] = max(there, places.get(place, there))
    return unflat(kind, places)


def flat_under(kind, one, other):
    there = flat(kind, other)
    return all(place in there and what <= there[place] for place, what in flat(kind, one).items())


class Pieces(unittest.TestCase):
    def test_told_order(self):
        self.assertEqual(pieces(NAMES, ("a", "ab", "b")), [("a",), ("ab",), ("b",)])
        self.assertEqual(pieces(MOST, 7), [7])
        self.assertEqual(pieces(LAST, (2, -3)), [(2, -3)])
        self.assertEqual(pieces(LAST, (1, 0)), [(1, 0)])
        self.assertEqual(pieces(each(NAMES), (("k", ("a", "b")), ("l", ("c",)))),
                         [(("k", ("a",)),), (("k", ("b",)),), (("l", ("c",)),)])
        self.assertEqual(pieces(both(NAMES, MOST), (("a", "b"), 3)), [(("a",), 0), (("b",), 0), ((), 3)])
        self.assertEqual(pieces(both(MOST, LAST), (0, (1, 1))), [(0, (1, 1))])
        self.assertEqual(pieces(both(MOST, LAST), (4, (0, 0))), [(4, (0, 0))])
        self.assertEqual(pieces(each(both(MOST, NAMES)), (("k", (1, ("a",))), ("l", (0, ("b",))))),
                         [(("k", (1, ())),), (("k", (0, ("a",))),), (("l", (0, ("b",))),)])

    def test_none_for_the_bottom(self):
        for kind in kinds_up_to(3):
            self.assertEqual(pieces(kind, bottom(kind)), [])

    def test_joined_they_are_the_worth_and_none_is_to_spare(self):
        chance = random.Random(7)
        for kind in SOME_KINDS:
            for _ in range(25):
                worth = worth_of(chance, kind)
                told = pieces(kind, worth)
                self.assertIsInstance(told, list)
                self.assertEqual(told, [unflat(kind, {place: what}) for place, what in flat(kind, worth).items()])
                self.assertEqual(joined(kind, [bottom(kind), *told]), worth)
                for at, piece in enumerate(told):
                    self.assertIs(is_worth(kind, piece), True)
                    self.assertNotEqual(joined(kind, [bottom(kind), *told[:at], *told[at + 1:]]), worth)

    def test_each_told_list_is_new(self):
        for kind, worth in [(NAMES, ("a", "b")), (MOST, 3), (LAST, (1, 1)), (each(MOST), (("a", 1),)),
                            (both(MOST, MOST), (1, 1)), (NAMES, ()), (MOST, 0)]:
            told = pieces(kind, worth)
            was = list(told)
            told.append("more")
            self.assertEqual(pieces(kind, worth), was)

    def test_lack(self):
        self.assertEqual(lack(NAMES, ("a", "b", "c"), ("b", "d")), ("a", "c"))
        self.assertEqual(lack(MOST, 5, 3), 5)
        self.assertEqual(lack(MOST, 3, 5), 0)
        self.assertEqual(lack(LAST, (2, 1), (1, 9)), (2, 1))
        self.assertEqual(lack(LAST, (1, 9), (2, 1)), (0, 0))
        self.assertEqual(lack(LAST, (1, 9), (1, 8)), (1, 9))
        self.assertEqual(lack(each(MOST), (("a", 1), ("b", 2), ("c", 3)), (("a", 1), ("b", 1))), (("b", 2), ("c", 3)))
        self.assertEqual(lack(each(NAMES), (("k", ("a", "b")),), (("k", ("a",)),)), (("k", ("b",)),))
        self.assertEqual(lack(each(NAMES), (("k", ("a",)),), (("k", ("a", "b")),)), ())
        self.assertEqual(lack(both(MOST, NAMES), (1, ("a", "b")), (2, ("b",))), (0, ("a",)))
        self.assertEqual(lack(both(MOST, NAMES), (3, ("b",)), (2, ("b",))), (3, ()))

    def test_lack_of_many_worths(self):
        chance = random.Random(8)
        for kind in SOME_KINDS:
            least = bottom(kind)
            for _ in range(40):
                one, other = worth_of(chance, kind), worth_of(chance, kind)
                told = lack(kind, one, other)
                self.assertIs(is_worth(kind, told), True)
                unheld = [piece for piece in pieces(kind, one) if not under(kind, piece, other)]
                self.assertEqual(told, joined(kind, [least, *unheld]))
                self.assertEqual(join(kind, told, other), join(kind, one, other))
                self.assertEqual(lack(kind, one, join(kind, one, other)), least)
                self.assertEqual(lack(kind, one, one), least)
                self.assertEqual(lack(kind, one, least), one)
                self.assertEqual(lack(kind, least, one), least)

    def test_lack_is_the_least(self):
        for kind, worths in small_worths():
            for one, other in itertools.product(worths, repeat=2):
                whole = join(kind, one, other)
                told = lack(kind, one, other)
                fit = [worth for worth in worths if join(kind, worth, other) == whole]
                self.assertIn(told, fit)
                for worth in fit:
                    self.assertIs(under(kind, told, worth), True)


def small_worths():
    """Some kinds, each with all worths of a small house of theirs."""
    names = [(), ("a",), ("b",), ("a", "b")]
    lasts = [(0, 0), (1, -1), (1, 0), (2, -1)]
    tables = [tuple((name, worth) for name, worth in [("a", one), ("b", other)] if worth)
              for one in range(3) for other in range(3)]
    yield NAMES, names
    yield MOST, [0, 1, 2, 3]
    yield LAST, lasts
    yield each(MOST), tables
    yield both(NAMES, LAST), [(one, other) for one in names for other in lasts]


class Unchanged(unittest.TestCase):
    def test_plain_kinds_stay(self):
        self.assertEqual(PLAIN, [("names",), ("most",), ("last",)])

    def test_lists_of_the_asker_stay(self):
        asked = ["names"]
        is_kind(asked)
        is_worth(NAMES, asked)
        is_worth(each(MOST), [asked])
        self.assertEqual(asked, ["names"])


if __name__ == "__main__":
    unittest.main()
