"""[15] and [16], [2] and [4]: histories of worths."""

import copy
import random
import unittest

from growjoin.chains import askings, chain, wrong
from growjoin.house import House
from growjoin.joins import bottom, is_worth, under
from helper import (
    LAST, MOST, NAMES, ODD, SOME_KINDS, both, comparable, deep_tuple, each, flat, run_house, worth_of,
)

A, B, C, D = ("a",), ("b",), ("c",), ("d",)
AB, AC, BC, ABC = ("a", "b"), ("a", "c"), ("b", "c"), ("a", "b", "c")
WORDS = ["wish", "ask", "tell", "fall"]
NO_NUMBERS = [True, False, "1", "", (1,), 1.0, 2.0, *ODD]


def wish(hand, number, worth):
    return ("wish", hand, number, worth)


def ask(hand, asking, worth):
    return ("ask", hand, asking, worth)


def tell(hand, worth):
    return ("tell", hand, worth)


def fall(hand):
    return ("fall", hand)


def holds(kind, one, other):
    """Whether one holds the other, place by place: a way apart from the program's."""
    there = flat(kind, one)
    return all(place in there and part <= there[place] for place, part in flat(kind, other).items())


def all_of(ahead, word, hand):
    return [event for event in ahead if event[:2] == (word, hand)]


def is_number(thing):
    return type(thing) is int


def can_be(kind, hands, ahead, event):
    """[15] of one event, read word by word behind all events ahead of it."""
    if not is_number(event[1]) or not 0 <= event[1] < hands:
        return False
    word, hand = event[:2]
    if fall(hand) in ahead:
        return False
    if word == "fall":
        return True
    if not is_worth(kind, event[-1]):
        return False
    if word == "wish":
        return is_number(event[2]) and event[2] == 1 + len([one for one in ahead if one[0] == "wish"])
    asks, tells = all_of(ahead, "ask", hand), all_of(ahead, "tell", hand)
    since = ahead[max([at for at, one in enumerate(ahead) if one[:2] == ("tell", hand)], default=-1) + 1:]
    if word == "tell":
        told = [one[2] for one in ahead if one[0] == "tell"]
        return (bool(all_of(since, "ask", hand)) and event[2] == asks[-1][3]
                and all(holds(kind, event[2], one) or holds(kind, one, event[2]) for one in told))
    worth = event[3]
    if not is_number(event[2]) or event[2] != 1 + len(asks):
        return False
    if tells and not holds(kind, worth, tells[-1][2]):
        return False
    parts = {}
    for one in ahead:
        if one[0] == "wish":
            for place, part in flat(kind, one[3]).items():
                parts[place] = max(part, parts.get(place, part))
    if not all(place in parts and part <= parts[place] for place, part in flat(kind, worth).items()):
        return False
    if not all_of(since, "ask", hand):
        return all(holds(kind, worth, one[3]) for one in all_of(ahead, "wish", hand))
    return worth != asks[-1][3] and holds(kind, worth, asks[-1][3])


def first_wrong(kind, hands, history):
    for place, event in enumerate(history):
        if not can_be(kind, hands, history[:place], event):
            return place
    return None


def other_word(chance, event):
    """The event under another word, with the parts that this one has."""
    word = chance.choice([word for word in WORDS if word != event[0]])
    hand, number, worth = event[1], chance.randrange(1, 4), event[-1]
    if event[0] in ("wish", "ask"):
        number = event[2]
    return {"wish": wish(hand, number, worth), "ask": ask(hand, number, worth), "tell": tell(hand, worth),
            "fall": fall(hand)}[word]


def other_part(event, at, part):
    return event[:at] + (part,) + event[at + 1:]


def one_otherwise(chance, kind, hands, history):
    """The history with one event put otherwise."""
    events = list(history)
    at = chance.randrange(len(events))
    event = events[at]
    way = chance.randrange(8)
    if way == 0:
        del events[at]
    elif way == 1:
        events.insert(chance.randrange(at, len(events)) + 1, event)
    elif way == 2:
        to = chance.randrange(len(events))
        events[at], events[to] = events[to], events[at]
    elif way == 3:
        events[at] = other_part(event, 1, chance.choice([*range(hands), hands, -1, True, "0", None]))
    elif way == 4 and event[0] in ("wish", "ask") and is_number(event[2]):
        events[at] = other_part(event, 2, chance.choice([event[2] + 1, event[2] - 1, True, None, "1", 1]))
    elif way == 5 and event[0] != "fall":
        others = [one[-1] for one in events if one[0] != "fall"]
        worth = chance.choice([chance.choice(others), worth_of(chance, kind), chance.choice([None, "a", -1, True])])
        events[at] = other_part(event, len(event) - 1, worth)
    elif way == 6:
        events[at] = other_word(chance, event)
    else:
        hand = chance.randrange(hands)
        worth = chance.choice([one[-1] for one in events if one[0] != "fall"] or [bottom(kind)])
        asked = len([one for one in events[:at] if one[:2] == ("ask", hand)])
        new = [wish(hand, chance.randrange(1, 9), worth), ask(hand, asked + 1, worth), tell(hand, worth), fall(hand)]
        events.insert(at, chance.choice(new))
    return events


class WrongOfHouses(unittest.TestCase):
    def test_nothing_is_wrong_and_no_beginning_is(self):
        chance = random.Random(151)
        for _ in range(400):
            hands = chance.choice([1, 2, 3, 4, 5, 9])
            kind = chance.choice(SOME_KINDS)
            history = run_house(chance, kind, hands, hands).history()
            for upto in range(len(history) + 1):
                self.assertIsNone(wrong(kind, hands, history[:upto]))

    def test_the_empty_one(self):
        for kind in SOME_KINDS:
            for hands in (1, 2, 9):
                self.assertIsNone(wrong(kind, hands, []))

    def test_one_event_or_two_put_otherwise(self):
        chance = random.Random(152)
        found = {word: 0 for word in WORDS}
        right = 0
        for _ in range(6000):
            hands = chance.choice([1, 2, 2, 3, 3, 5])
            kind = chance.choice([NAMES, MOST, LAST, each(MOST), each(LAST), both(NAMES, MOST), chance.choice(SOME_KINDS)])
            history = run_house(chance, kind, hands, hands).history()
            for _ in range(chance.choice([1, 1, 2])):
                history = one_otherwise(chance, kind, hands, history) if history else history
            place = wrong(kind, hands, history)
            self.assertEqual(place, first_wrong(kind, hands, history), (kind, hands, history))
            if place is None:
                right += 1
            else:
                found[history[place][0]] += 1
        # Else what is looked for above would hardly have been tried.
        self.assertGreater(right, 200)
        self.assertTrue(all(many > 50 for many in found.values()), found)

    def test_a_place_is_a_number_from_0(self):
        self.assertEqual(wrong(NAMES, 1, [fall(0), fall(0), fall(0)]), 1)
        self.assertIs(type(wrong(NAMES, 1, [tell(0, ())])), int)
        self.assertEqual(wrong(NAMES, 1, [tell(0, ())]), 0)


class Wrong(unittest.TestCase):
    """Each part of the point by itself: the last event is the one that can't be, or nothing is wrong."""

    def check_right(self, kind, hands, *events):
        self.assertIsNone(wrong(kind, hands, list(events)))
        self.assertIsNone(first_wrong(kind, hands, list(events)))

    def check_last(self, kind, hands, *events):
        self.check_right(kind, hands, *events[:-1])
        self.assertEqual(wrong(kind, hands, list(events)), len(events) - 1)
        # What stands behind it is not asked any more.
        self.assertEqual(wrong(kind, hands, [*events, fall(0), tell(7, None)]), len(events) - 1)

    def test_a_fallen_hand_does_nothing(self):
        ahead = [wish(0, 1, A), ask(0, 1, A), wish(1, 2, B), fall(0)]
        self.check_last(NAMES, 3, *ahead, wish(0, 3, C))
        self.check_last(NAMES, 3, *ahead, ask(0, 2, AB))
        self.check_last(NAMES, 3, *ahead, tell(0, A))
        self.check_last(NAMES, 3, *ahead, fall(0))
        self.check_right(NAMES, 3, *ahead, wish(1, 3, C), ask(1, 1, BC), tell(1, BC), fall(1), fall(2))

    def test_numbers_of_wishes(self):
        self.check_right(NAMES, 2, wish(0, 1, A), wish(1, 2, B), wish(0, 3, A))
        for number in [0, 2, -1, 3]:
            self.check_last(NAMES, 2, wish(0, number, A))
        for number in [0, 1, 3, -2]:
            self.check_last(NAMES, 2, wish(0, 1, A), wish(1, number, B))
        for number in NO_NUMBERS:
            self.check_last(NAMES, 2, wish(0, number, A))
            self.check_last(NAMES, 2, wish(0, 1, A), wish(0, number, A))

    def test_numbers_of_askings(self):
        ahead = [wish(0, 1, A), wish(1, 2, B)]
        self.check_right(NAMES, 2, *ahead, ask(0, 1, A), ask(1, 1, B), ask(0, 2, AB), ask(1, 2, AB))
        for number in [0, 2, -1, 3, *NO_NUMBERS]:
            self.check_last(NAMES, 2, *ahead, ask(0, number, A))
        for number in [0, 1, 3, *NO_NUMBERS]:
            self.check_last(NAMES, 2, *ahead, ask(0, 1, A), ask(0, number, AB))
        # A hand counts its own only, and on behind a tell.
        self.check_last(NAMES, 2, *ahead, ask(0, 1, A), ask(1, 2, B))
        self.check_last(NAMES, 2, *ahead, ask(0, 1, A), tell(0, A), ask(0, 1, A))
        self.check_right(NAMES, 2, *ahead, ask(0, 1, A), tell(0, A), ask(0, 2, A))

    def test_no_number_of_a_hand(self):
        ahead = [wish(0, 1, A), wish(1, 2, B), ask(1, 1, B), ask(0, 1, A)]
        for thing in [-1, 2, 3, -2, 10 ** 21, True, False, "0", "", (0,), 0.0, 1.0, *ODD]:
            for event in [wish(thing, 3, A), ask(thing, 2, AB), tell(thing, A), fall(thing)]:
                self.check_last(NAMES, 2, *ahead, event)
        self.check_last(NAMES, 1, wish(1, 1, A))
        self.check_right(NAMES, 9, wish(8, 1, A))
        self.check_last(NAMES, 9, wish(9, 1, A))

    def test_no_worth(self):
        for thing in ["a", ("b", "a"), ("a", "a"), ("A",), ["a"], 0, 1, True, ("",), deep_tuple(), *ODD]:
            self.check_last(NAMES, 1, wish(0, 1, thing))
            self.check_last(NAMES, 1, wish(0, 1, AB), ask(0, 1, thing))
            self.check_last(NAMES, 1, wish(0, 1, AB), ask(0, 1, AB), tell(0, thing))

    def test_a_truth_is_no_worth_though_it_is_like_one(self):
        self.check_last(MOST, 1, wish(0, 1, True))
        self.check_last(MOST, 1, wish(0, 1, 1), ask(0, 1, True))
        self.check_last(MOST, 1, wish(0, 1, 1), ask(0, 1, 1), tell(0, True))
        self.check_last(MOST, 1, wish(0, 1, 1), ask(0, 1, 1), tell(0, 1.0))
        self.check_last(LAST, 1, wish(0, 1, (1, 1)), ask(0, 1, (1, 1)), tell(0, (1, True)))
        self.check_last(LAST, 1, wish(0, 1, (1, 0)), ask(0, 1, (True, 0)))

    def test_worths_of_another_kind(self):
        self.check_last(MOST, 1, wish(0, 1, ()))
        self.check_last(each(MOST), 1, wish(0, 1, (("a", 0),)))
        self.check_right(each(MOST), 1, wish(0, 1, (("a", 1),)))
        self.check_last(both(MOST, NAMES), 1, wish(0, 1, (1, A)), ask(0, 1, (A, 1)))

    def test_an_ask_holds_what_the_hand_told_last(self):
        ahead = [wish(0, 1, A), wish(1, 2, B), ask(0, 1, AB), tell(0, AB)]
        self.check_last(NAMES, 2, *ahead, ask(0, 2, A))
        self.check_right(NAMES, 2, *ahead, ask(0, 2, AB))
        # It need not hold what another hand told.
        self.check_right(NAMES, 2, *ahead, ask(1, 1, B))
        more = [*ahead, wish(0, 3, C), wish(1, 4, D)]
        self.check_last(NAMES, 2, *more, ask(0, 2, AC))
        self.check_right(NAMES, 2, *more, ask(0, 2, ABC))

    def test_an_ask_holds_nothing_that_nobody_wished(self):
        self.check_last(NAMES, 2, ask(0, 1, A))
        self.check_right(NAMES, 2, ask(0, 1, ()))
        self.assertEqual(wrong(NAMES, 2, [wish(0, 1, A), ask(0, 1, AB), wish(1, 2, B)]), 1)
        self.check_right(NAMES, 2, wish(0, 1, A), wish(1, 2, B), ask(0, 1, AB))
        self.check_last(NAMES, 2, wish(0, 1, A), wish(1, 2, B), ask(0, 1, A), ask(0, 2, ABC))
        self.check_last(MOST, 2, wish(0, 1, 4), ask(0, 1, 5))
        self.check_last(MOST, 2, wish(0, 1, 4), ask(0, 1, 4), tell(0, 4), ask(0, 2, 5))
        # By the words, what lies below the join of all wishes will do, wished as such or not.
        self.check_right(LAST, 2, wish(1, 1, (2, 5)), ask(0, 1, (1, 99)))
        # A wish of a hand that has fallen was wished all the same.
        self.check_right(NAMES, 2, wish(0, 1, A), wish(1, 2, B), fall(1), ask(0, 1, AB))

    def test_a_first_ask_holds_all_wishes_of_its_hand(self):
        ahead = [wish(0, 1, A), wish(1, 2, B), wish(0, 3, C)]
        for worth in [(), A, C, BC, AB]:
            self.check_last(NAMES, 2, *ahead, ask(0, 1, worth))
        for worth in [AC, ABC]:
            self.check_right(NAMES, 2, *ahead, ask(0, 1, worth))

    def test_an_ask_behind_a_tell_holds_all_wishes_of_its_hand(self):
        ahead = [wish(0, 1, A), wish(1, 2, B), ask(0, 1, A), wish(0, 3, C), tell(0, A), wish(0, 4, D)]
        for worth in [A, AC, ("a", "d"), ABC, ("a", "b", "d")]:
            self.check_last(NAMES, 2, *ahead, ask(0, 2, worth))
        for worth in [("a", "c", "d"), ("a", "b", "c", "d")]:
            self.check_right(NAMES, 2, *ahead, ask(0, 2, worth))

    def test_an_ask_anew_may_lack_a_wish_of_its_hand(self):
        ahead = [wish(0, 1, A), ask(0, 1, A), wish(0, 2, C), wish(1, 3, B)]
        self.check_right(NAMES, 2, *ahead, ask(0, 2, AB), tell(0, AB))
        self.check_last(NAMES, 2, *ahead, ask(0, 2, AB), tell(0, AB), ask(0, 3, AB))

    def test_an_ask_anew_is_for_more(self):
        ahead = [wish(0, 1, AB), wish(1, 2, C), ask(0, 1, AB)]
        for worth in [(), A, B, AB, C, AC, BC]:
            self.check_last(NAMES, 2, *ahead, ask(0, 2, worth))
        self.check_right(NAMES, 2, *ahead, ask(0, 2, ABC))
        self.check_last(NAMES, 2, *ahead, ask(0, 2, ABC), ask(0, 3, ABC))
        self.check_last(NAMES, 2, ask(0, 1, ()), ask(0, 2, ()))
        self.check_last(MOST, 2, wish(0, 1, 0), ask(0, 1, 0), ask(0, 2, 0))
        # Behind a tell it may be for the same.
        self.check_right(NAMES, 2, *ahead, tell(0, AB), ask(0, 2, AB))

    def test_a_tell_of_what_was_not_asked(self):
        self.check_last(NAMES, 2, wish(0, 1, A), tell(0, A))
        self.check_last(NAMES, 2, tell(0, ()))
        self.check_last(MOST, 2, tell(0, 0))
        ahead = [wish(0, 1, A), wish(1, 2, B), ask(0, 1, A)]
        for worth in [(), B, AB]:
            self.check_last(NAMES, 2, *ahead, tell(0, worth))
        self.check_last(NAMES, 2, *ahead, tell(1, A))
        self.check_last(NAMES, 2, *ahead, ask(0, 2, AB), tell(0, A))
        self.check_right(NAMES, 2, *ahead, ask(0, 2, AB), tell(0, AB))

    def test_a_tell_of_what_was_told_since(self):
        ahead = [wish(0, 1, A), ask(0, 1, A), tell(0, A)]
        self.check_last(NAMES, 2, *ahead, tell(0, A))
        self.check_last(NAMES, 2, *ahead, wish(0, 2, B), tell(0, A))
        self.check_right(NAMES, 2, *ahead, ask(0, 2, A), tell(0, A))
        self.check_last(NAMES, 2, *ahead, ask(0, 2, A), tell(0, A), tell(0, A))

    def test_a_tell_beside_the_row(self):
        wishes = [wish(0, 1, A), wish(1, 2, B), wish(2, 3, C)]
        asks = [ask(0, 1, A), ask(1, 1, B), ask(2, 1, ABC)]
        self.check_last(NAMES, 3, *wishes, *asks, tell(0, A), tell(1, B))
        self.check_last(NAMES, 3, *wishes, *asks, tell(0, A), tell(2, ABC), tell(1, B))
        self.check_last(NAMES, 3, *wishes, *asks, tell(2, ABC), tell(0, A), tell(1, B))
        self.check_right(NAMES, 3, *wishes, *asks, tell(2, ABC), tell(0, A))
        self.check_right(NAMES, 3, *wishes, *asks, tell(0, A), tell(2, ABC), ask(1, 2, AB), tell(1, AB))

    def test_a_tell_beside_one_of_a_long_row(self):
        # Told are ever longer beginnings of abcdefgh by hand 0; then hand 1 tells what holds some of them.
        names = "abcdefgh"
        events = [wish(0, 1, A), wish(1, 2, tuple(names)), wish(2, 3, ())]
        for many in range(1, 9):
            events += [ask(0, many, tuple(names[:many])), tell(0, tuple(names[:many]))]
        for upto in range(9):
            whole = tuple(names[:upto])
            self.check_right(NAMES, 3, *events, ask(2, 1, whole), tell(2, whole))
        for upto in range(7):
            for behind in range(upto + 2, 9):
                beside = tuple(names[:upto]) + tuple(names[upto + 1:behind])
                self.check_last(NAMES, 3, *events, ask(2, 1, beside), tell(2, beside))

    def test_a_tell_that_a_fallen_hand_told_against(self):
        self.check_last(NAMES, 2, wish(0, 1, A), ask(0, 1, A), tell(0, A), fall(0), wish(1, 2, B), ask(1, 1, B),
                        tell(1, B))

    def test_what_is_no_event(self):
        ahead = [wish(0, 1, A), ask(0, 1, A)]
        for event in [(), ("tell",), ("tell", 0), ("tell", 0, A, A), ("fall",), ("fall", 1, A), ("wish", 0, 2),
                      ("ask", 0, 2), ("ask", 1, 1, A, A), ("told", 0, A), ("Tell", 0, A), (0, 0, A), ["tell", 0, A],
                      "tell", (None, 0, A), (("tell",), 0, A), (["tell"], 0, A), *[(odd, 0, A) for odd in ODD], *ODD]:
            self.assertEqual(wrong(NAMES, 2, [*ahead, event]), 2)

    def test_great_worths(self):
        names = tuple(sorted(one + other + third for one in "abcdefghij" for other in "abcdefghij"
                             for third in "abcdefghijklmnopqrst"))
        self.assertEqual(len(names), 2000)
        events = []
        for number in range(1, 51):
            events += [wish(0, number, names[:number * 40]), ask(0, number, names[:number * 40]),
                       tell(0, names[:number * 40])]
        self.assertIsNone(wrong(NAMES, 1, events))
        self.assertEqual(chain(NAMES, events), [names[:number * 40] for number in range(1, 51)])
        self.assertEqual(askings(NAMES, events), [(0, 1, 0)] * 50)


class Chain(unittest.TestCase):
    def test_nothing_told(self):
        self.assertEqual(chain(NAMES, []), [])
        self.assertEqual(chain(NAMES, [wish(0, 1, A), ask(0, 1, A), fall(0)]), [])

    def test_one_told(self):
        self.assertEqual(chain(NAMES, [wish(0, 1, A), ask(0, 1, A), tell(0, A)]), [A])
        self.assertEqual(chain(MOST, [wish(0, 1, 0), ask(0, 1, 0), tell(0, 0)]), [0])

    def test_told_more_than_once(self):
        one = [wish(0, 1, A), ask(0, 1, A), tell(0, A), ask(0, 2, A), tell(0, A)]
        self.assertEqual(chain(NAMES, one), [A])
        several = [wish(0, 1, A), wish(1, 2, B), ask(0, 1, AB), ask(1, 1, AB), ask(2, 1, A), tell(1, AB), tell(0, AB),
                   tell(2, A), ask(0, 2, AB), tell(0, AB)]
        self.assertIsNone(wrong(NAMES, 3, several))
        self.assertEqual(chain(NAMES, several), [A, AB])

    def test_the_least_first_whichever_was_told_first(self):
        wishes = [wish(0, 1, A), wish(1, 2, B), wish(2, 3, C)]
        asks = [ask(0, 1, A), ask(1, 1, AB), ask(2, 1, ABC), ask(3, 1, ())]
        tells = [tell(0, A), tell(1, AB), tell(2, ABC), tell(3, ())]
        for seed in range(40):
            random.Random(seed).shuffle(tells)
            history = [*wishes, *asks, *tells]
            self.assertIsNone(wrong(NAMES, 4, history))
            self.assertEqual(chain(NAMES, history), [(), A, AB, ABC])

    def test_other_kinds(self):
        ones = {
            MOST: [0, 3, 10, 10 ** 20],
            LAST: [(0, 0), (1, -5), (1, 7), (2, -9)],
            each(LAST): [(), (("b", (1, 5)),), (("b", (2, -5)),), (("a", (1, 0)), ("b", (2, -5)))],
            both(MOST, NAMES): [(0, ()), (0, B), (1, B), (1, AB)],
        }
        for kind, rising in ones.items():
            for seed in range(20):
                mixed = random.Random(seed).sample(rising * 2, 8)
                self.assertEqual(chain(kind, [tell(0, worth) for worth in mixed]), rising)

    def test_of_houses(self):
        chance = random.Random(161)
        most = 0
        for _ in range(600):
            kind = chance.choice(SOME_KINDS)
            hands = chance.choice([1, 2, 3, 5])
            history = run_house(chance, kind, hands, hands).history()
            told = [event[2] for event in history if event[0] == "tell"]
            row = chain(kind, history)
            most = max(most, len(row))
            self.assertEqual((sorted(set(row)), len(set(row))), (sorted(set(told)), len(row)))
            for one, other in zip(row, row[1:]):
                self.assertTrue(holds(kind, other, one) and one != other)
        self.assertGreater(most, 4)

    def test_two_told_of_which_neither_holds_the_other_are_wrong(self):
        history = [wish(0, 1, A), wish(1, 2, B), ask(0, 1, A), ask(1, 1, B), tell(0, A), tell(1, B)]
        self.assertEqual((wrong(NAMES, 2, history), comparable(NAMES, A, B)), (5, False))


class Askings(unittest.TestCase):
    def test_nothing_told(self):
        self.assertEqual(askings(NAMES, []), [])
        self.assertEqual(askings(NAMES, [wish(0, 1, A), ask(0, 1, A), fall(0)]), [])

    def test_asked_once(self):
        self.assertEqual(askings(NAMES, [wish(0, 1, A), ask(0, 1, A), tell(0, A)]), [(0, 1, 0)])

    def test_in_the_order_of_the_tells(self):
        history = [
            wish(0, 1, A), ask(0, 1, A), wish(1, 2, B), ask(1, 1, B), wish(2, 3, C), ask(2, 1, C),
            ask(0, 2, AB), ask(2, 2, BC), ask(2, 3, ABC), tell(2, ABC), tell(0, AB), ask(1, 2, AB), tell(1, AB),
            wish(0, 4, A), ask(0, 3, AB), tell(0, AB),
        ]
        self.assertIsNone(wrong(NAMES, 3, history))
        self.assertEqual(askings(NAMES, history), [(2, 3, 2), (0, 2, 1), (1, 2, 1), (0, 1, 0)])

    def test_each_wish_counts_of_any_hand(self):
        # Of hand 0 itself, twice the same, of a fallen hand, of what is held only in part, and the bottom.
        history = [
            wish(0, 1, A), ask(0, 1, A), wish(0, 2, B), wish(1, 3, B), wish(1, 4, B), wish(2, 5, AB), fall(2),
            wish(1, 6, ("b", "z")), wish(1, 7, ()), wish(1, 8, A), ask(0, 2, AB), tell(0, AB),
        ]
        self.assertIsNone(wrong(NAMES, 3, history))
        self.assertEqual(askings(NAMES, history), [(0, 2, 4)])

    def test_wishes_behind_the_tell_do_not_count(self):
        history = [wish(0, 1, A), ask(0, 1, A), wish(1, 2, B), ask(0, 2, AB)]
        self.assertEqual(askings(NAMES, [*history, tell(0, AB), wish(1, 3, B)]), [(0, 2, 1)])
        self.assertEqual(askings(NAMES, [*history, wish(1, 3, B), tell(0, AB)]), [(0, 2, 2)])

    def test_wishes_ahead_of_the_first_ask_count_too(self):
        history = [wish(1, 1, B), wish(0, 2, A), ask(0, 1, A), ask(0, 2, AB), tell(0, AB)]
        self.assertEqual(askings(NAMES, history), [(0, 2, 1)])

    def test_the_first_asked_one_for_it_is_behind_the_last_tell(self):
        history = [
            wish(0, 1, A), ask(0, 1, A), wish(1, 2, B), ask(0, 2, AB), tell(0, AB),
            wish(0, 3, C), ask(0, 3, ABC), wish(1, 4, D), ask(0, 4, ("a", "b", "c", "d")), tell(0, ("a", "b", "c", "d")),
        ]
        self.assertIsNone(wrong(NAMES, 2, history))
        self.assertEqual(askings(NAMES, history), [(0, 2, 1), (0, 2, 1)])

    def test_other_kinds(self):
        history = [wish(0, 1, 1), ask(0, 1, 1), wish(1, 2, 5), wish(1, 3, 3), wish(1, 4, 9), ask(0, 2, 5), tell(0, 5)]
        self.assertEqual(askings(MOST, history), [(0, 2, 2)])
        history = [wish(0, 1, (2, 0)), ask(0, 1, (2, 0)), wish(1, 2, (2, 1)), wish(1, 3, (1, 99)), ask(0, 2, (2, 1)),
                   tell(0, (2, 1))]
        self.assertEqual(askings(LAST, history), [(0, 2, 1)])

    def test_of_houses(self):
        chance = random.Random(162)
        most = 0
        for _ in range(600):
            kind = chance.choice(SOME_KINDS)
            hands = chance.choice([2, 3, 5])
            history = run_house(chance, kind, hands, hands).history()
            rows = []
            for place, event in enumerate(history):
                if event[0] == "tell":
                    rows.append(self.row_of(kind, history[:place], event[1], event[2]))
            self.assertEqual(askings(kind, history), rows)
            for hand, times, wishes in rows:
                self.assertLessEqual(times, wishes + 1)
                most = max(most, times)
        self.assertGreater(most, 2)

    def row_of(self, kind, ahead, hand, worth):
        since = ahead[max([at for at, one in enumerate(ahead) if one[:2] == ("tell", hand)], default=-1) + 1:]
        asks = [one[3] for one in since if one[:2] == ("ask", hand)]
        new = [one for one in ahead if one[0] == "wish" and holds(kind, worth, one[3])
               and not holds(kind, asks[0], one[3])]
        return (hand, len(asks), len(new))


class HandedInAndTold(unittest.TestCase):
    def some_history(self):
        house = House(NAMES, 2)
        house.wish(0, A)
        house.wish(1, B)
        for number in [1, 3, 4, 5]:
            house.deliver(number)
        return house.history()

    def test_argument_names(self):
        history = self.some_history()
        self.assertIsNone(wrong(history=history, hands=2, kind=NAMES))
        self.assertEqual(chain(history=history, kind=NAMES), [AB])
        self.assertEqual(askings(history=history, kind=NAMES), [(0, 2, 1)])

    def test_what_is_handed_in_is_not_changed(self):
        history = [*self.some_history(), tell(0, C), fall(1)]
        was = copy.deepcopy(history)
        wrong(NAMES, 2, history)
        chain(NAMES, history[:-2])
        askings(NAMES, history[:-2])
        self.assertEqual(history, was)
        right = self.some_history()
        was = copy.deepcopy(right)
        chain(NAMES, right)
        askings(NAMES, right)
        self.assertEqual(right, was)

    def test_every_told_list_is_a_new_one(self):
        history = self.some_history()
        for call, row in [(chain, [AB]), (askings, [(0, 2, 1)])]:
            told = call(NAMES, history)
            told.append("more")
            told.reverse()
            self.assertEqual(call(NAMES, history), row)
            kept = call(NAMES, history)
            history.append(tell(1, ABC))
            history.pop()
            self.assertEqual(kept, row)
            empty = [call(NAMES, []), call(NAMES, [])]
            empty[0].append("more")
            self.assertEqual(empty[1], [])

    def test_calls_leave_nothing_behind(self):
        history = self.some_history()
        self.assertEqual(wrong(NAMES, 2, [fall(0), fall(0)]), 1)
        self.assertIsNone(wrong(NAMES, 2, history))
        self.assertIsNone(wrong(NAMES, 2, history))

    def test_the_helper_holds_as_under_does(self):
        chance = random.Random(163)
        for _ in range(2000):
            kind = chance.choice(SOME_KINDS)
            one, other = worth_of(chance, kind), worth_of(chance, kind)
            self.assertEqual(holds(kind, one, other), under(kind, other, one))


if __name__ == "__main__":
    unittest.main()
