"""[25], [2] and [4]: all ends of two hands' wishes, and a way to each."""

import copy
import random
import unittest

from growjoin.ends import ends, way
from growjoin.house import House
from growjoin.joins import bottom, join
from helper import LAST, MOST, NAMES, PLAIN, SOME_KINDS, both, comparable, each, joined, snapshot, worth_of

A, B, C = ("a",), ("b",), ("c",)


def done_over(kind, wishes, moves):
    """A new house at which the moves were done, and how many of its wishes each hand has left."""
    house = House(kind, 2)
    left = [list(wishes[0]), list(wishes[1])]
    for word, which in moves:
        if word == "wish":
            house.wish(which, left[which].pop(0))
        else:
            house.deliver(which)
    return house, left


def told_by(house):
    return (tuple(house.told(0)), tuple(house.told(1)))


def ends_of_all_orders(kind, ones, others):
    """What every order of wishes and letters there is leads to, each gone through to its end."""
    found = set()
    todo = [[]]
    while todo:
        moves = todo.pop()
        house, left = done_over(kind, (ones, others), moves)
        steps = [("wish", hand) for hand in (0, 1) if left[hand]] + [("bring", number) for number in house.waiting()]
        todo += [moves + [step] for step in steps]
        if not steps:
            found.add(told_by(house))
    return sorted(found)


def splits(worths):
    """The worths given to both hands, in each way that keeps their order."""
    for many in range(len(worths) + 1):
        yield worths[:many], worths[many:]


class Ends(unittest.TestCase):
    def check(self, kind, ones, others):
        told = ends(kind, ones, others)
        self.assertEqual(told, ends_of_all_orders(kind, ones, others), (kind, ones, others))
        return told

    def test_no_wish(self):
        for kind in SOME_KINDS:
            self.assertEqual(ends(kind, [], []), [((), ())])

    def test_one_wish(self):
        for kind in SOME_KINDS:
            for worth in [worth_of(random.Random(5), kind), bottom(kind)]:
                self.assertEqual(ends(kind, [worth], []), [((worth,), ())])
                self.assertEqual(ends(kind, [], [worth]), [((), (worth,))])

    def test_two_wishes_of_one_hand(self):
        # The second one is wished while the hand asks or once it told: it tells first what it began to ask for.
        self.assertEqual(ends(NAMES, [A, B], []), [((A, ("a", "b")), ())])
        self.assertEqual(ends(MOST, [], [2, 1]), [((), (2, 2))])
        self.assertEqual(ends(LAST, [(1, 5), (2, -5)], []), [(((1, 5), (2, -5)), ())])

    def test_a_bottom_is_told_only_where_the_hand_asks_nothing(self):
        self.assertEqual(ends(MOST, [0], []), [((0,), ())])
        self.assertEqual(ends(MOST, [0, 0], []), [((0,), ()), ((0, 0), ())])
        self.assertEqual(ends(NAMES, [A, ()], []), [((A,), ()), ((A, A), ())])
        self.assertEqual(ends(NAMES, [(), A], []), [(((), A), ())])

    def test_a_wish_each(self):
        ab = ("a", "b")
        self.assertEqual(ends(NAMES, [A], [B]), [((A,), (ab,)), ((ab,), (ab,)), ((ab,), (B,))])
        self.assertEqual(ends(NAMES, [A], [A]), [((A,), (A,))])
        self.assertEqual(ends(NAMES, [A], [ab]), [((A,), (ab,)), ((ab,), (ab,))])
        self.assertEqual(ends(NAMES, [()], [()]), [(((),), ((),))])
        self.assertEqual(ends(MOST, [2], [1]), [((2,), (1,)), ((2,), (2,))])
        self.assertEqual(ends(MOST, [0], [3]), [((0,), (3,)), ((3,), (3,))])

    def test_three_wishes(self):
        self.assertEqual(ends(NAMES, [A, B], [C]), [
            ((A, ("a", "b")), (("a", "b", "c"),)),
            ((A, ("a", "b", "c")), (("a", "b", "c"),)),
            ((A, ("a", "b", "c")), (("a", "c"),)),
            ((("a", "c"), ("a", "b", "c")), (("a", "b", "c"),)),
            ((("a", "c"), ("a", "b", "c")), (("a", "c"),)),
            ((("a", "c"), ("a", "b", "c")), (C,)),
        ])
        self.assertEqual(ends(NAMES, [A, B, C], []), [
            ((A, ("a", "b"), ("a", "b", "c")), ()), ((A, ("a", "b", "c")), ()),
        ])

    def test_unlike_names_in_every_split(self):
        for ones, others in splits([A, B, C]):
            self.check(NAMES, ones, others)

    def test_each_plain_kind_in_every_split(self):
        rows = {
            NAMES: [[A, A, A], [(), (), ()], [A, ("a", "b"), B], [("a", "b"), A, ()], [A, (), B]],
            MOST: [[1, 2, 3], [3, 2, 1], [2, 2, 2], [0, 0, 0], [0, 1, 0], [10 ** 20, 1, 10 ** 20], [1, 3, 2]],
            LAST: [
                [(1, 1), (2, 0), (1, 2)], [(0, 0), (1, -3), (0, 0)], [(3, 3), (3, 3), (3, 4)], [(2, 0), (1, 9), (2, -1)],
            ],
        }
        self.assertEqual(set(rows), set(PLAIN))
        for kind, many in rows.items():
            for worths in many:
                for size in range(4):
                    for ones, others in splits(worths[:size]):
                        self.check(kind, ones, others)

    def test_kinds_within_one_another(self):
        chance = random.Random(251)
        for kind in SOME_KINDS:
            for size in (2, 3):
                worths = [worth_of(chance, kind) for _ in range(size)]
                if size == 3 and chance.random() < 0.7:
                    # One holds another, or two are alike; the orders are fewer, too.
                    worths[2] = chance.choice([worths[0], bottom(kind), joined(kind, worths)])
                ones, others = chance.choice(list(splits(worths)))
                self.check(kind, ones, others)

    def test_the_same_join_reached_in_two_ways(self):
        self.check(both(NAMES, MOST), [(A, 0), ((), 1)], [(A, 1)])
        self.check(each(MOST), [(("a", 1),)], [(("a", 2),), (("b", 1),)])

    def test_sorted_each_once_and_tuples(self):
        chance = random.Random(252)
        for _ in range(150):
            kind = chance.choice(SOME_KINDS)
            ones, others = chance.choice(list(splits([worth_of(chance, kind) for _ in range(chance.randrange(4))])))
            told = ends(kind, ones, others)
            self.assertIs(type(told), list)
            self.assertTrue(told)
            self.assertTrue(all(one < other for one, other in zip(told, told[1:])))
            for end in told:
                self.assertEqual([type(end), type(end[0]), type(end[1]), len(end)], [tuple, tuple, tuple, 2])
                self.check_end(kind, ones, others, end)

    def check_end(self, kind, ones, others, end):
        """[4]: all that was told lies in one row, and what a hand told last holds all its wishes."""
        for worths, told in zip((ones, others), end):
            self.assertEqual(bool(worths), bool(told))
            if worths:
                self.assertEqual(join(kind, joined(kind, worths), told[-1]), told[-1])
        whole = [*end[0], *end[1]]
        self.assertTrue(all(comparable(kind, one, other) for one in whole for other in whole))

    def test_a_house_ends_only_in_what_is_told(self):
        chance = random.Random(253)
        met = 0
        for _ in range(120):
            kind = chance.choice(SOME_KINDS)
            ones, others = chance.choice(list(splits([worth_of(chance, kind) for _ in range(chance.randrange(1, 4))])))
            told = ends(kind, ones, others)
            found = [self.ended_by_chance(chance, kind, (ones, others)) for _ in range(40)]
            self.assertTrue(all(end in told for end in found))
            met += len([end for end in told if end in found])
        self.assertGreater(met, 200)

    def ended_by_chance(self, chance, kind, wishes):
        house, left = done_over(kind, wishes, [])
        eager = chance.random()
        while any(left) or house.waiting():
            wishing = [hand for hand in (0, 1) if left[hand]]
            if wishing and (not house.waiting() or chance.random() < eager):
                hand = chance.choice(wishing)
                house.wish(hand, left[hand].pop(0))
            else:
                house.deliver(chance.choice(house.waiting()))
        return told_by(house)

    def test_great_worths(self):
        names = [first + second + third for first in "abcd" for second in "abcdefghijklmnopqrstuvwxyz"
                 for third in "abcdefghijklmnopqrstuvwxyz"][:2000]
        great = ends(NAMES, [tuple(names[:1500])], [tuple(names[500:]), tuple(names[::2])])
        # The same, with one name for all names that stand in the same ones of the three.
        small = ends(NAMES, [("a", "b", "c", "d")], [("c", "d", "e", "f"), ("a", "c", "e")])
        parts = [(at >= 500) + (at >= 1500) for at in range(2000)]
        letters = {name: ["ace", "bdf"][at % 2][parts[at]] for at, name in enumerate(names)}
        shrunk = [tuple(tuple(tuple(sorted({letters[name] for name in worth})) for worth in told) for told in end)
                  for end in great]
        self.assertEqual(sorted(shrunk), small)

    def test_more_wishes_than_three(self):
        self.assertEqual(ends(MOST, [1, 0], [1, 0]), ends_of_all_orders(MOST, [1, 0], [1, 0]))
        self.assertEqual(len(ends(NAMES, [A, B], [C, ("d",)])), 19)


class Ways(unittest.TestCase):
    def check_way(self, kind, ones, others, end):
        moves = way(kind, ones, others, end)
        self.assertIs(type(moves), list)
        for move in moves:
            self.assertEqual((type(move), len(move)), (tuple, 2))
            self.assertIn(move[0], ("wish", "bring"))
        house, left = done_over(kind, (ones, others), moves)
        self.assertEqual((told_by(house), left, house.waiting()), (end, [[], []], []))
        brought = [number for word, number in moves if word == "bring"]
        self.assertEqual(sorted(brought), [letter[0] for letter in house.letters()])

    def test_no_wish(self):
        self.assertEqual(way(NAMES, [], [], ((), ())), [])

    def test_the_only_way_there_is(self):
        self.assertEqual(way(MOST, [4], [], ((4,), ())), [("wish", 0), ("bring", 1), ("bring", 2)])
        self.assertEqual(way(MOST, [], [4], ((), (4,))), [("wish", 1), ("bring", 1), ("bring", 2)])

    def test_each_plain_kind(self):
        for kind, worths in ((NAMES, [A, B, C]), (MOST, [1, 2, 3]), (LAST, [(1, 5), (2, -5), (1, 6)])):
            for size in range(4):
                for ones, others in splits(worths[:size]):
                    for end in ends(kind, ones, others):
                        self.check_way(kind, ones, others, end)

    def test_many(self):
        chance = random.Random(254)
        for _ in range(150):
            kind = chance.choice(SOME_KINDS)
            ones, others = chance.choice(list(splits([worth_of(chance, kind) for _ in range(chance.randrange(4))])))
            told = ends(kind, ones, others)
            for end in told:
                self.check_way(kind, ones, others, end)
                for other in self.ends_put_otherwise(chance, kind, end):
                    if other in told:
                        self.check_way(kind, ones, others, other)
                    else:
                        self.assertIsNone(way(kind, ones, others, other))

    def ends_put_otherwise(self, chance, kind, end):
        """Both exchanged, a worth more, a worth less, another worth."""
        one, other = end
        more = worth_of(chance, kind)
        return [
            (other, one), (one + (more,), other), (one, (more,) + other), (one[1:], other), (one, other[:-1]),
            ((more,) + one[1:], other), (one, other[:-1] + (more,)),
        ]

    def test_none(self):
        ab = ("a", "b")
        self.assertIsNone(way(NAMES, [A], [B], ((A,), (B,))))
        self.assertIsNone(way(NAMES, [A], [B], ((ab,), (A,))))
        self.assertIsNone(way(NAMES, [A], [B], ((ab,), ())))
        self.assertIsNone(way(NAMES, [A], [B], ((ab, ab), (ab,))))
        self.assertIsNone(way(NAMES, [A], [B], ((C,), (ab,))))
        self.assertIsNone(way(NAMES, [A], [], ((), (A,))))
        self.assertIsNone(way(NAMES, [A], [], ((), ())))
        self.assertIsNone(way(NAMES, [], [], (((),), ())))
        # What is told in the midst is no end.
        self.assertIsNone(way(NAMES, [A, B], [], ((A,), ())))


class Told(unittest.TestCase):
    """[2] of these functions."""

    def test_what_is_handed_in_is_not_changed(self):
        ones, others = [(("a", 1),)], [(("a", 2),), (("b", 1),)]
        before = copy.deepcopy((ones, others))
        for end in ends(each(MOST), ones, others):
            way(each(MOST), ones, others, end)
            self.assertEqual((ones, others), before)

    def test_one_list_for_both_hands(self):
        worths = [A]
        self.assertEqual(ends(NAMES, worths, worths), [((A,), (A,))])
        self.assertEqual(worths, [A])

    def test_told_lists_are_new(self):
        end = ends(NAMES, [A], [B])[0]
        for asked in (
            lambda: ends(NAMES, [A], [B]), lambda: way(NAMES, [A], [B], end), lambda: way(NAMES, [], [], ((), ())),
        ):
            one, other = asked(), asked()
            self.assertEqual(one, other)
            one.append("more")
            one.reverse()
            self.assertEqual(asked(), other)

    def test_argument_names(self):
        self.assertEqual(ends(others=[], ones=[A], kind=NAMES), [((A,), ())])
        self.assertEqual(len(way(end=((A,), ()), others=[], ones=[A], kind=NAMES)), 3)


class Twins(unittest.TestCase):
    """The houses by which ends are found."""

    def test_each_goes_its_own_way(self):
        house = House(NAMES, 3)
        house.wish(0, A)
        house.wish(1, B)
        house.wish(1, C)
        house.deliver(1)
        house.fall(2)
        before = snapshot(house)
        twin = house.twin()
        self.assertEqual(snapshot(twin), before)
        self.assertEqual(house.twin().wish(0, A), 4)
        while twin.waiting():
            twin.deliver(twin.waiting()[0])
        twin.wish(0, C)
        twin.fall(1)
        self.assertEqual(snapshot(house), before)
        behind = snapshot(twin)
        house.fall(0)
        house.wish(1, A)
        self.assertEqual(snapshot(twin), behind)


if __name__ == "__main__":
    unittest.main()
