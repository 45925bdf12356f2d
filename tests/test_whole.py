"""[4]: the promise of the whole, as far as it speaks of a house, over many orders."""

import copy
import random
import unittest

from growjoin.house import House
from growjoin.joins import bottom, under
from helper import LAST, MOST, NAMES, SOME_KINDS, comparable, each, joined, run_house, worth_of


def tellings(history):
    """For each tell in its order (hand, asked worths for it, place of the first ask, place of the tell)."""
    asked = {}
    told = []
    for place, event in enumerate(history):
        if event[0] == "ask":
            asked.setdefault(event[1], []).append((place, event[3]))
        elif event[0] == "tell":
            asks = asked.pop(event[1])
            told.append((event[1], [worth for at, worth in asks], asks[0][0], place))
    return told


def wishes_in(history, hand=None):
    return [event[3] for event in history if event[0] == "wish" and hand in (None, event[1])]


class Checks(unittest.TestCase):
    """What must hold of every history of a house."""

    def check_history(self, kind, history):
        told = [event[2] for event in history if event[0] == "tell"]
        for at, one in enumerate(told):
            for other in told[:at]:
                self.assertTrue(comparable(kind, one, other), (one, other))
        for telling in tellings(history):
            self.check_telling(kind, history, *telling)

    def check_telling(self, kind, history, hand, asked, began, place):
        worth = history[place][2]
        self.assertEqual(worth, asked[-1])
        for wished in wishes_in(history[:began], hand):
            self.assertTrue(under(kind, wished, worth))
        for event in history[:place]:
            if event[:2] == ("tell", hand):
                self.assertTrue(under(kind, event[2], worth))
        inside = [wished for wished in wishes_in(history[:place]) if under(kind, wished, worth)]
        self.assertEqual(joined(kind, [bottom(kind), *inside]), worth)
        new = [wished for wished in inside if not under(kind, wished, asked[0])]
        self.assertLessEqual(len(asked) - 1, len(new))

    def check_end(self, house):
        """Where no letter waits and fewer than half have fallen."""
        kind, history = house.kind(), house.history()
        self.assertEqual(house.waiting(), [])
        for hand in range(house.hands()):
            if house.has_fallen(hand):
                continue
            self.assertIsNone(house.asks(hand))
            self.assertEqual(house.purse(hand), bottom(kind))
            for wished in wishes_in(history, hand):
                self.assertTrue(under(kind, wished, house.told(hand)[-1]))


class ManyOrders(Checks):
    def test_some_fall_and_some_letters_never_come(self):
        chance = random.Random(11)
        for _ in range(1200):
            hands = chance.choice([1, 2, 3, 3, 4, 5, 7])
            kind = chance.choice(SOME_KINDS)
            house = run_house(chance, kind, hands, hands)
            self.check_history(kind, house.history())

    def test_fewer_than_half_fall_and_all_letters_come(self):
        chance = random.Random(12)
        anew = 0
        falls = 0
        for _ in range(1200):
            hands = chance.choice([1, 2, 3, 3, 4, 5, 7, 9])
            kind = chance.choice(SOME_KINDS)
            house = run_house(chance, kind, hands, (hands - 1) // 2)
            while house.waiting():
                house.deliver(chance.choice(house.waiting()))
            self.check_history(kind, house.history())
            self.check_end(house)
            anew += sum(len(asked) - 1 for hand, asked, began, place in tellings(house.history()))
            falls += sum(event[0] == "fall" for event in house.history())
        # Else what is looked for above would hardly have been tried.
        self.assertGreater(anew, 1000)
        self.assertGreater(falls, 200)

    def test_letters_oldest_first_and_newest_first(self):
        for place in (0, -1):
            for hands in range(1, 10):
                chance = random.Random(hands)
                house = House(NAMES, hands)
                for _ in range(3):
                    for hand in range(hands):
                        house.wish(hand, worth_of(chance, NAMES))
                while house.waiting():
                    house.deliver(house.waiting()[place])
                self.check_history(NAMES, house.history())
                self.check_end(house)

    def test_a_wish_for_each_hand_of_nine_at_once(self):
        names = [("a",), ("b",), ("c",), ("d",), ("e",), ("f",), ("g",), ("h",), ("i",)]
        for seed in range(60):
            chance = random.Random(seed)
            house = House(NAMES, 9)
            for hand in range(9):
                house.wish(hand, names[hand])
            while house.waiting():
                house.deliver(chance.choice(house.waiting()))
            self.check_history(NAMES, house.history())
            self.check_end(house)

    def test_what_waits_once_half_have_fallen(self):
        for hands in (2, 4, 6):
            house = House(MOST, hands)
            for hand in range(hands // 2):
                house.fall(hand)
            house.wish(hands - 1, 1)
            while house.waiting():
                house.deliver(house.waiting()[0])
            self.assertEqual((house.asks(hands - 1), house.told(hands - 1)), ((1, 1), []))


class AllOrders(Checks):
    """Every order of wishes and letters there is, each letter brought once."""

    def follow(self, house, wishes, ends):
        moved = False
        for hand, worths in enumerate(wishes):
            if worths:
                later = copy.deepcopy(house)
                later.wish(hand, worths[0])
                self.follow(later, [rest[1:] if at == hand else rest for at, rest in enumerate(wishes)], ends)
                moved = True
        for number in house.waiting():
            later = copy.deepcopy(house)
            later.deliver(number)
            self.follow(later, wishes, ends)
            moved = True
        if not moved:
            self.check_history(house.kind(), house.history())
            self.check_end(house)
            ends.add(tuple(tuple(house.told(hand)) for hand in range(house.hands())))

    def test_two_hands_with_a_wish_each(self):
        ends = set()
        self.follow(House(NAMES, 2), [[("a",)], [("b",)]], ends)
        self.assertEqual(ends, {
            ((("a", "b"),), (("a", "b"),)), ((("a",),), (("a", "b"),)), ((("a", "b"),), (("b",),)),
        })

    def test_two_hands_of_other_kinds(self):
        ends = set()
        self.follow(House(MOST, 2), [[2], [1]], ends)
        self.follow(House(LAST, 2), [[(1, 1), (2, 2)], []], ends)
        self.assertEqual(ends, {((2,), (2,)), ((2,), (1,)), (((1, 1), (2, 2)), ())})

    def test_three_hands_with_one_wish(self):
        ends = set()
        self.follow(House(each(MOST), 3), [[], [(("a", 1),)], []], ends)
        self.assertEqual(ends, {((), ((("a", 1),),), ())})


if __name__ == "__main__":
    unittest.main()
