"""[8] to [14], [2] and [3]: a house, letter by letter."""

import unittest

from growjoin.errors import Fallen, NoHand, NoHands, NoKind, NoLetter, NoWorth
from growjoin.house import House
from helper import LAST, MOST, NAMES, ODD, SOME_KINDS, both, deep_tuple, each, snapshot

A, B, C, D = ("a",), ("b",), ("c",), ("d",)
AB, ABC, BC = ("a", "b"), ("a", "b", "c"), ("b", "c")


def deliver_all(house, *numbers):
    return [house.deliver(number) for number in numbers]


def newest(house, many):
    return house.letters()[-many:]


class AtFirst(unittest.TestCase):
    def test_every_house_is_empty_at_first(self):
        for kind, least in [(NAMES, ()), (MOST, 0), (LAST, (0, 0)), (each(MOST), ()), (both(MOST, LAST), (0, (0, 0)))]:
            for hands in [1, 2, 3, 9, 12]:
                house = House(kind, hands)
                self.assertEqual(snapshot(house), (
                    kind, hands, [], [], [], [least] * hands, [least] * hands, [None] * hands,
                    [[] for _ in range(hands)], [False] * hands,
                ))

    def test_argument_names(self):
        house = House(hands=2, kind=MOST)
        self.assertEqual(house.wish(worth=3, hand=0), 1)
        self.assertEqual(house.deliver(number=1), "came")
        self.assertEqual(house.held(hand=1), 3)
        self.assertEqual(house.purse(hand=0), 0)
        self.assertEqual(house.asks(hand=0), (1, 3))
        self.assertEqual(house.told(hand=0), [])
        self.assertEqual(house.again(hand=0), 1)
        self.assertIsNone(house.fall(hand=1))
        self.assertIs(house.has_fallen(hand=1), True)


class OneHand(unittest.TestCase):
    def test_it_tells_at_once(self):
        house = House(NAMES, 1)
        self.assertEqual(house.wish(0, B), 1)
        self.assertEqual(house.wish(0, A), 2)
        self.assertEqual(house.wish(0, ()), 3)
        self.assertEqual(snapshot(house), (
            NAMES, 1, [], [], [
                ("wish", 0, 1, B), ("ask", 0, 1, B), ("tell", 0, B),
                ("wish", 0, 2, A), ("ask", 0, 2, AB), ("tell", 0, AB),
                ("wish", 0, 3, ()), ("ask", 0, 3, AB), ("tell", 0, AB),
            ], [AB], [()], [None], [[B, AB, AB]], [False],
        ))

    def test_the_bottom_too_is_asked_and_told(self):
        for kind, least in [(NAMES, ()), (MOST, 0), (LAST, (0, 0)), (both(MOST, NAMES), (0, ()))]:
            house = House(kind, 1)
            self.assertEqual(house.wish(0, least), 1)
            self.assertEqual(house.told(0), [least])
            self.assertEqual(house.history(), [("wish", 0, 1, least), ("ask", 0, 1, least), ("tell", 0, least)])

    def test_again_has_nothing_to_send(self):
        house = House(MOST, 1)
        house.wish(0, 4)
        self.assertEqual(house.again(0), 0)
        self.assertEqual(house.letters(), [])


class TwoHands(unittest.TestCase):
    def test_a_wish_that_is_agreed(self):
        house = House(MOST, 2)
        self.assertEqual(house.wish(1, 5), 1)
        self.assertEqual(house.letters(), [(1, 1, 0, ("ask", 1, 5))])
        self.assertEqual((house.held(1), house.held(0), house.purse(1)), (5, 0, 0))
        self.assertEqual((house.asks(1), house.asks(0), house.told(1)), ((1, 5), None, []))
        self.assertEqual(house.deliver(1), "came")
        self.assertEqual(house.held(0), 5)
        self.assertEqual(house.letters()[1:], [(2, 0, 1, ("yes", 1))])
        self.assertEqual((house.told(1), house.waiting()), ([], [2]))
        self.assertEqual(house.deliver(2), "came")
        self.assertEqual((house.told(1), house.told(0), house.asks(1)), ([5], [], None))
        self.assertEqual(house.waiting(), [])
        self.assertEqual(house.history(), [("wish", 1, 1, 5), ("ask", 1, 1, 5), ("tell", 1, 5)])

    def test_two_that_meet(self):
        house = House(NAMES, 2)
        self.assertEqual([house.wish(0, A), house.wish(1, B)], [1, 2])
        self.assertEqual(house.deliver(1), "came")
        self.assertEqual((house.held(0), house.held(1)), (A, AB))
        self.assertEqual(newest(house, 1), [(3, 1, 0, ("more", 1, AB))])
        self.assertEqual(house.deliver(3), "came")
        self.assertEqual((house.asks(0), house.held(0)), ((2, AB), AB))
        self.assertEqual(newest(house, 1), [(4, 0, 1, ("ask", 2, AB))])
        self.assertEqual(house.deliver(2), "came")
        self.assertEqual(newest(house, 1), [(5, 0, 1, ("more", 1, AB))])
        self.assertEqual(house.deliver(5), "came")
        self.assertEqual(newest(house, 1), [(6, 1, 0, ("ask", 2, AB))])
        self.assertEqual(deliver_all(house, 4, 7, 6, 8), ["came"] * 4)
        self.assertEqual(newest(house, 2), [(7, 1, 0, ("yes", 2)), (8, 0, 1, ("yes", 2))])
        self.assertEqual((house.told(0), house.told(1)), ([AB], [AB]))
        self.assertEqual(house.history(), [
            ("wish", 0, 1, A), ("ask", 0, 1, A), ("wish", 1, 2, B), ("ask", 1, 1, B),
            ("ask", 0, 2, AB), ("ask", 1, 2, AB), ("tell", 0, AB), ("tell", 1, AB),
        ])
        self.assertEqual(house.waiting(), [])

    def test_wishes_while_asking_go_to_the_purse(self):
        house = House(NAMES, 2)
        house.wish(0, A)
        self.assertEqual(house.wish(0, C), 2)
        self.assertEqual(house.wish(0, B), 3)
        self.assertEqual((house.purse(0), house.asks(0), house.held(0)), (BC, (1, A), A))
        self.assertEqual(len(house.letters()), 1)
        deliver_all(house, 1, 2)
        self.assertEqual((house.told(0), house.purse(0), house.asks(0)), ([A], (), (2, ABC)))
        self.assertEqual(newest(house, 1), [(3, 0, 1, ("ask", 2, ABC))])
        self.assertEqual(house.history(), [
            ("wish", 0, 1, A), ("ask", 0, 1, A), ("wish", 0, 2, C), ("wish", 0, 3, B),
            ("tell", 0, A), ("ask", 0, 2, ABC),
        ])
        deliver_all(house, 3, 4)
        self.assertEqual((house.told(0), house.asks(0)), ([A, ABC], None))

    def test_a_bottom_in_the_purse_does_not_begin_again(self):
        house = House(NAMES, 2)
        house.wish(0, A)
        self.assertEqual(house.wish(0, ()), 2)
        deliver_all(house, 1, 2)
        self.assertEqual((house.told(0), house.asks(0), len(house.letters())), ([A], None, 2))

    def test_a_held_worth_in_the_purse_begins_again(self):
        house = House(NAMES, 2)
        house.wish(0, A)
        house.wish(0, A)
        deliver_all(house, 1, 2)
        self.assertEqual((house.told(0), house.asks(0)), ([A], (2, A)))

    def test_the_purse_is_not_asked_when_it_asks_anew(self):
        house = House(NAMES, 2)
        house.wish(0, A)
        house.wish(1, B)
        house.wish(0, C)
        deliver_all(house, 1, 3)
        self.assertEqual((house.asks(0), house.purse(0)), ((2, AB), C))

    def test_a_wish_behind_a_told_one_holds_what_was_told(self):
        house = House(MOST, 2)
        house.wish(0, 7)
        deliver_all(house, 1, 2)
        self.assertEqual(house.wish(0, 3), 2)
        self.assertEqual(house.asks(0), (2, 7))
        self.assertEqual(newest(house, 1), [(3, 0, 1, ("ask", 2, 7))])

    def test_what_it_holds_from_others_is_not_asked_at_first(self):
        house = House(NAMES, 2)
        house.wish(1, B)
        house.deliver(1)
        house.wish(0, A)
        self.assertEqual((house.asks(0), house.held(0)), ((1, A), AB))
        self.assertEqual(newest(house, 1), [(3, 0, 1, ("ask", 1, A))])

    def test_its_own_more_counts(self):
        house = House(NAMES, 2)
        house.wish(1, B)
        house.deliver(1)
        house.wish(0, A)
        house.deliver(3)
        self.assertEqual(newest(house, 1), [(4, 1, 0, ("more", 1, AB))])
        house.deliver(4)
        self.assertEqual(house.asks(0), (2, AB))

    def test_one_tells_and_the_other_asks_anew(self):
        house = House(MOST, 2)
        house.wish(0, 5)
        house.wish(1, 3)
        deliver_all(house, 2, 1)
        self.assertEqual(newest(house, 2), [(3, 0, 1, ("more", 1, 5)), (4, 1, 0, ("yes", 1))])
        deliver_all(house, 4)
        self.assertEqual((house.told(0), house.told(1)), ([5], []))
        deliver_all(house, 3)
        self.assertEqual((house.asks(0), house.asks(1)), (None, (2, 5)))

    def test_other_kinds(self):
        house = House(each(LAST), 2)
        one, other = (("a", (1, 5)),), (("a", (2, -5)), ("b", (1, 0)))
        house.wish(0, one)
        house.wish(1, other)
        deliver_all(house, 1, 2)
        self.assertEqual(newest(house, 2), [(3, 1, 0, ("more", 1, other)), (4, 0, 1, ("yes", 1))])
        deliver_all(house, 4, 3)
        self.assertEqual((house.told(1), house.asks(0)), ([other], (2, other)))


class ThreeHands(unittest.TestCase):
    def test_letters_go_to_the_others_rising(self):
        house = House(MOST, 4)
        house.wish(2, 1)
        self.assertEqual(house.letters(), [(1, 2, 0, ("ask", 1, 1)), (2, 2, 1, ("ask", 1, 1)), (3, 2, 3, ("ask", 1, 1))])

    def test_two_of_three_are_enough(self):
        house = House(NAMES, 3)
        house.wish(0, A)
        deliver_all(house, 2, 3)
        self.assertEqual((house.told(0), house.held(1), house.held(2)), ([A], (), A))
        self.assertEqual(house.waiting(), [1])
        self.assertEqual(deliver_all(house, 1, 4), ["came", "came"])
        self.assertEqual((house.told(0), house.asks(0), len(house.letters())), ([A], None, 4))

    def test_its_own_more_and_a_yes_lead_to_asking_anew(self):
        house = House(NAMES, 3)
        house.wish(1, B)
        house.deliver(1)
        house.wish(0, A)
        self.assertEqual((house.held(0), house.asks(0)), (AB, (1, A)))
        self.assertEqual(newest(house, 2), [(4, 0, 1, ("ask", 1, A)), (5, 0, 2, ("ask", 1, A))])
        deliver_all(house, 5)
        self.assertEqual(newest(house, 1), [(6, 2, 0, ("yes", 1))])
        deliver_all(house, 6)
        self.assertEqual(house.asks(0), (2, AB))
        self.assertEqual(newest(house, 2), [(7, 0, 1, ("ask", 2, AB)), (8, 0, 2, ("ask", 2, AB))])
        self.assertEqual(house.told(0), [])

    def test_it_says_more_to_itself_when_it_asks_anew(self):
        house = House(NAMES, 3)
        house.wish(0, A)
        house.wish(1, B)
        house.wish(2, C)
        deliver_all(house, 1, 5)
        self.assertEqual((house.held(0), newest(house, 2)),
                         (("a", "c"), [(7, 1, 0, ("more", 1, AB)), (8, 0, 2, ("more", 1, ("a", "c")))]))
        house.deliver(7)
        self.assertEqual((house.asks(0), house.held(0)), ((2, AB), ABC))
        self.assertEqual(newest(house, 2), [(9, 0, 1, ("ask", 2, AB)), (10, 0, 2, ("ask", 2, AB))])
        deliver_all(house, 9, 11)
        self.assertEqual(house.letters()[10], (11, 1, 0, ("yes", 2)))
        self.assertEqual((house.asks(0), house.told(0)), ((3, ABC), []))

    def test_a_more_behind_a_tell_comes_to_nothing(self):
        house = House(NAMES, 3)
        house.wish(2, C)
        house.wish(0, A)
        deliver_all(house, 3, 4)
        self.assertEqual(newest(house, 2), [(5, 1, 0, ("yes", 1)), (6, 2, 0, ("more", 1, ("a", "c")))])
        house.deliver(5)
        before = snapshot(house)
        self.assertEqual(house.told(0), [A])
        self.assertEqual(house.deliver(6), "came")
        after = snapshot(house)
        self.assertEqual(after[3], [number for number in before[3] if number != 6])
        self.assertEqual(after[:3] + after[4:], before[:3] + before[4:])

    def test_a_more_is_not_held_until_it_is_asked(self):
        house = House(NAMES, 5)
        house.wish(4, D)
        house.wish(0, A)
        house.deliver(8)
        self.assertEqual(newest(house, 1), [(9, 4, 0, ("more", 1, ("a", "d")))])
        house.deliver(9)
        self.assertEqual((house.held(0), house.asks(0), len(house.letters())), (A, (1, A), 9))


class MoreHands(unittest.TestCase):
    def test_half_of_four_is_not_enough(self):
        house = House(MOST, 4)
        house.wish(0, 2)
        deliver_all(house, 1, 4)
        self.assertEqual((house.told(0), house.asks(0)), ([], (1, 2)))
        deliver_all(house, 2, 5)
        self.assertEqual((house.told(0), house.asks(0)), ([2], None))

    def test_half_of_four_is_not_enough_to_ask_anew(self):
        house = House(MOST, 4)
        house.wish(1, 9)
        house.wish(0, 2)
        deliver_all(house, 4, 7)
        self.assertEqual(house.letters()[6], (7, 1, 0, ("more", 1, 9)))
        self.assertEqual(house.asks(0), (1, 2))
        deliver_all(house, 5, 8)
        self.assertEqual(house.letters()[7], (8, 2, 0, ("yes", 1)))
        self.assertEqual(house.asks(0), (2, 9))

    def test_three_of_five_and_all_that_was_said_more(self):
        house = House(NAMES, 5)
        house.wish(1, B)
        house.wish(2, C)
        house.wish(0, A)
        deliver_all(house, 9, 10)
        self.assertEqual(newest(house, 2), [(13, 1, 0, ("more", 1, AB)), (14, 2, 0, ("more", 1, ("a", "c")))])
        house.deliver(14)
        self.assertEqual((house.asks(0), len(house.letters())), ((1, A), 14))
        house.deliver(13)
        self.assertEqual((house.asks(0), house.held(0)), ((2, ABC), ABC))
        self.assertEqual(newest(house, 4), [(15 + at, 0, 1 + at, ("ask", 2, ABC)) for at in range(4)])

    def test_three_yes_of_five(self):
        house = House(NAMES, 5)
        house.wish(3, A)
        deliver_all(house, 4, 5)
        self.assertEqual(house.told(3), [])
        deliver_all(house, 1, 6)
        self.assertEqual(house.told(3), [A])

    def test_nine_hands(self):
        house = House(MOST, 9)
        house.wish(8, 3)
        for number in range(1, 4):
            deliver_all(house, number, 8 + number)
            self.assertEqual(house.told(8), [])
        deliver_all(house, 4, 12)
        self.assertEqual(house.told(8), [3])


class LateAndAgain(unittest.TestCase):
    def test_an_ask_brought_twice_is_answered_twice(self):
        house = House(NAMES, 3)
        house.wish(0, A)
        deliver_all(house, 1, 1)
        self.assertEqual(newest(house, 2), [(3, 1, 0, ("yes", 1)), (4, 1, 0, ("yes", 1))])

    def test_an_ask_may_be_answered_otherwise_later(self):
        house = House(NAMES, 3)
        house.wish(0, A)
        house.wish(2, C)
        deliver_all(house, 1, 4, 1)
        self.assertEqual(newest(house, 3), [
            (5, 1, 0, ("yes", 1)), (6, 1, 2, ("more", 1, ("a", "c"))), (7, 1, 0, ("more", 1, ("a", "c"))),
        ])

    def test_the_first_answer_that_comes_counts(self):
        house = House(NAMES, 4)
        house.wish(0, A)
        house.wish(1, B)
        deliver_all(house, 1)
        self.assertEqual(newest(house, 1), [(7, 1, 0, ("more", 1, AB))])
        house.deliver(7)
        self.assertEqual((house.asks(0), len(house.letters())), ((1, A), 7))
        house.deliver(7)
        house.deliver(7)
        self.assertEqual((house.asks(0), len(house.letters())), ((1, A), 7))
        deliver_all(house, 2, 8)
        self.assertEqual(house.asks(0), (2, AB))

    def house_with_two_answers(self):
        """Letters 5 and 11 answer one asking of hand 0, both by hand 1: first yes, then more."""
        house = House(NAMES, 5)
        house.wish(0, A)
        house.deliver(1)
        house.wish(4, D)
        deliver_all(house, 7, 1, 2)
        self.assertEqual([house.letters()[at - 1] for at in (5, 11, 12)], [
            (5, 1, 0, ("yes", 1)), (11, 1, 0, ("more", 1, ("a", "d"))), (12, 2, 0, ("yes", 1)),
        ])
        return house

    def test_a_more_behind_a_yes_comes_to_nothing(self):
        house = self.house_with_two_answers()
        self.assertEqual(deliver_all(house, 5, 11, 12), ["came"] * 3)
        self.assertEqual((house.told(0), house.asks(0)), ([A], None))

    def test_a_yes_behind_a_more_comes_to_nothing(self):
        house = self.house_with_two_answers()
        self.assertEqual(deliver_all(house, 11, 5, 12), ["came"] * 3)
        self.assertEqual((house.told(0), house.asks(0)), ([], (2, ("a", "d"))))

    def test_one_yes_twice_is_one(self):
        house = House(NAMES, 4)
        house.wish(0, A)
        deliver_all(house, 1, 4, 4, 1, 5, 5)
        self.assertEqual(house.letters()[3:], [(4, 1, 0, ("yes", 1)), (5, 1, 0, ("yes", 1))])
        self.assertEqual((house.told(0), house.asks(0)), ([], (1, A)))
        deliver_all(house, 3, 6)
        self.assertEqual(house.told(0), [A])

    def test_an_answer_to_an_older_asking_comes_to_nothing(self):
        house = House(NAMES, 3)
        house.wish(1, B)
        house.wish(0, A)
        deliver_all(house, 3, 4, 5)
        self.assertEqual(house.letters()[4:6], [(5, 1, 0, ("more", 1, AB)), (6, 2, 0, ("yes", 1))])
        self.assertEqual(house.asks(0), (2, AB))
        before = snapshot(house)
        self.assertEqual(house.deliver(6), "came")
        self.assertEqual(snapshot(house)[4:], before[4:])
        self.assertEqual((house.told(0), house.asks(0)), ([], (2, AB)))
        deliver_all(house, 8, 9)
        self.assertEqual(house.letters()[8:], [(9, 2, 0, ("yes", 2))])
        self.assertEqual(house.told(0), [AB])

    def test_an_answer_to_an_older_asking_is_not_taken_behind_a_new_beginning(self):
        house = House(MOST, 2)
        house.wish(0, 1)
        deliver_all(house, 1, 2)
        house.wish(0, 2)
        self.assertEqual(house.deliver(2), "came")
        self.assertEqual((house.told(0), house.asks(0)), ([1], (2, 2)))

    def test_late_asks_are_answered_all_the_same(self):
        house = House(MOST, 3)
        house.wish(0, 1)
        deliver_all(house, 1, 3)
        self.assertEqual(house.told(0), [1])
        house.wish(0, 8)
        deliver_all(house, 5)
        self.assertEqual(house.held(2), 8)
        self.assertEqual(house.deliver(2), "came")
        self.assertEqual(newest(house, 1), [(7, 2, 0, ("more", 1, 8))])

    def test_an_answer_while_nothing_is_asked(self):
        house = House(MOST, 2)
        house.wish(0, 1)
        deliver_all(house, 1, 2)
        before = snapshot(house)
        self.assertEqual(house.deliver(2), "came")
        self.assertEqual(snapshot(house), before)

    def test_letters_in_any_order(self):
        house = House(NAMES, 3)
        house.wish(0, A)
        house.wish(1, B)
        house.wish(2, C)
        self.assertEqual([letter[1:3] for letter in house.letters()], [(0, 1), (0, 2), (1, 0), (1, 2), (2, 0), (2, 1)])
        deliver_all(house, 6, 4, 1)
        self.assertEqual(newest(house, 3), [
            (7, 1, 2, ("more", 1, BC)), (8, 2, 1, ("more", 1, BC)), (9, 1, 0, ("more", 1, ABC)),
        ])
        deliver_all(house, 9)
        self.assertEqual(house.asks(0), (2, ABC))
        self.assertEqual(house.waiting(), [2, 3, 5, 7, 8, 10, 11])
        deliver_all(house, 10, 12)
        self.assertEqual(house.told(0), [ABC])


class Falls(unittest.TestCase):
    def test_fall_tells_nothing_and_is_in_the_history(self):
        house = House(MOST, 3)
        self.assertIsNone(house.fall(1))
        self.assertEqual([house.has_fallen(hand) for hand in range(3)], [False, True, False])
        self.assertEqual(house.history(), [("fall", 1)])

    def test_lost(self):
        house = House(MOST, 3)
        house.wish(0, 4)
        house.fall(1)
        before = snapshot(house)
        self.assertEqual(house.deliver(1), "lost")
        after = snapshot(house)
        self.assertEqual((before[3], after[3]), ([1, 2], [2]))
        self.assertEqual(after[:3] + after[4:], before[:3] + before[4:])
        self.assertEqual(house.deliver(1), "lost")
        self.assertEqual(snapshot(house), after)

    def test_answers_to_a_fallen_hand_are_lost(self):
        house = House(MOST, 3)
        house.wish(0, 4)
        house.deliver(1)
        house.fall(0)
        self.assertEqual(house.deliver(3), "lost")
        self.assertEqual((house.told(0), house.asks(0), house.waiting()), ([], (1, 4), [2]))

    def test_letters_of_a_fallen_hand_still_come(self):
        house = House(MOST, 3)
        house.wish(0, 4)
        house.fall(0)
        self.assertEqual(house.deliver(1), "came")
        self.assertEqual(house.held(1), 4)
        self.assertEqual(newest(house, 1), [(3, 1, 0, ("yes", 1))])
        self.assertEqual(house.deliver(3), "lost")

    def test_an_answer_of_a_fallen_hand_still_counts(self):
        house = House(MOST, 3)
        house.wish(0, 4)
        house.deliver(2)
        house.fall(2)
        self.assertEqual(house.deliver(3), "came")
        self.assertEqual(house.told(0), [4])

    def test_a_fallen_hand_is_asked_too(self):
        house = House(MOST, 3)
        house.fall(1)
        house.wish(0, 4)
        self.assertEqual(house.letters(), [(1, 0, 1, ("ask", 1, 4)), (2, 0, 2, ("ask", 1, 4))])

    def test_questions_of_a_fallen_hand(self):
        house = House(NAMES, 3)
        house.wish(0, A)
        deliver_all(house, 1, 3)
        house.wish(0, B)
        house.wish(0, C)
        house.fall(0)
        self.assertEqual((house.held(0), house.purse(0), house.asks(0), house.told(0), house.has_fallen(0)),
                         (AB, C, (2, AB), [A], True))

    def test_fallen_hands_count_among_all(self):
        house = House(MOST, 3)
        house.fall(1)
        house.fall(2)
        house.wish(0, 4)
        deliver_all(house, 1, 2)
        self.assertEqual((house.told(0), house.asks(0), house.waiting()), ([], (1, 4), []))


class Again(unittest.TestCase):
    def test_nothing_is_asked(self):
        house = House(MOST, 3)
        self.assertEqual(house.again(0), 0)
        house.wish(0, 1)
        deliver_all(house, 1, 3)
        before = snapshot(house)
        self.assertEqual(house.again(0), 0)
        self.assertEqual(snapshot(house), before)

    def test_to_those_that_have_not_answered(self):
        house = House(MOST, 5)
        house.wish(2, 7)
        deliver_all(house, 2, 5)
        house.fall(3)
        history = house.history()
        self.assertEqual(house.again(2), 3)
        self.assertEqual(newest(house, 3), [(6 + at, 2, hand, ("ask", 1, 7)) for at, hand in enumerate([0, 3, 4])])
        self.assertEqual((house.history(), house.asks(2)), (history, (1, 7)))
        self.assertEqual(house.waiting(), [1, 3, 4, 6, 7, 8])
        self.assertEqual(house.again(2), 3)
        self.assertEqual(newest(house, 3), [(9 + at, 2, hand, ("ask", 1, 7)) for at, hand in enumerate([0, 3, 4])])

    def test_an_answer_on_its_way_is_none_yet(self):
        house = House(MOST, 2)
        house.wish(0, 7)
        house.deliver(1)
        self.assertEqual(house.again(0), 1)
        self.assertEqual(newest(house, 1), [(3, 0, 1, ("ask", 1, 7))])
        deliver_all(house, 3, 4)
        self.assertEqual(house.told(0), [7])
        self.assertEqual(house.deliver(2), "came")
        self.assertEqual(house.told(0), [7])

    def test_the_present_asking(self):
        house = House(NAMES, 3)
        house.wish(1, B)
        house.wish(0, A)
        deliver_all(house, 3, 5)
        self.assertEqual(house.asks(0), (2, AB))
        self.assertEqual(house.again(0), 2)
        self.assertEqual(newest(house, 2), [(8, 0, 1, ("ask", 2, AB)), (9, 0, 2, ("ask", 2, AB))])


class Refusals(unittest.TestCase):
    def check(self, house, found, field, call, *arguments):
        before = snapshot(house)
        with self.assertRaises(found) as caught:
            call(*arguments)
        self.assertIs(type(caught.exception), found)
        if field:
            self.assertIs(getattr(caught.exception, field), arguments[0])
        self.assertEqual(snapshot(house), before)

    def busy_house(self):
        """A house in which much has happened; hand 2 has fallen while asking."""
        house = House(NAMES, 3)
        house.wish(0, A)
        house.wish(1, B)
        house.wish(2, C)
        house.wish(0, D)
        deliver_all(house, 1, 7)
        house.fall(2)
        return house

    def test_no_hand(self):
        house = self.busy_house()
        for thing in [3, 4, -1, 10 ** 21, -3, True, False, "0", "", (0,), (), *ODD]:
            self.check(house, NoHand, "hand", house.wish, thing, A)
            for call in [house.fall, house.again, house.held, house.purse, house.asks, house.told, house.has_fallen]:
                self.check(house, NoHand, "hand", call, thing)

    def test_no_worth(self):
        house = self.busy_house()
        for thing in ["a", ("b", "a"), ("a", "a"), ("A",), ["a"], 0, 1, True, ("",), deep_tuple(), *ODD]:
            self.check(house, NoWorth, None, house.wish, 0, thing)
        for kind in SOME_KINDS:
            house = House(kind, 2)
            for thing in [True, False, -1, "a", ((),), *ODD]:
                self.check(house, NoWorth, None, house.wish, 1, thing)

    def test_fallen(self):
        house = self.busy_house()
        self.check(house, Fallen, "hand", house.wish, 2, A)
        self.check(house, Fallen, "hand", house.wish, 2, ())
        self.check(house, Fallen, "hand", house.fall, 2)
        self.check(house, Fallen, "hand", house.again, 2)

    def test_again_of_a_fallen_hand_that_asks_nothing(self):
        house = House(MOST, 2)
        house.fall(0)
        self.check(house, Fallen, "hand", house.again, 0)

    def test_no_letter(self):
        house = self.busy_house()
        many = len(house.letters())
        for thing in [0, many + 1, -1, 10 ** 21, True, False, "1", "", (1,), (), 1.0, *ODD]:
            self.check(house, NoLetter, "number", house.deliver, thing)
        empty = House(MOST, 3)
        for thing in [0, 1, True]:
            self.check(empty, NoLetter, "number", empty.deliver, thing)

    def test_which_goes_first(self):
        house = self.busy_house()
        for thing in [3, None, True]:
            self.check(house, NoHand, "hand", house.wish, thing, None)
        self.check(house, NoWorth, None, house.wish, 2, None)
        self.check(house, NoWorth, None, house.wish, 2, ("b", "a"))

    def test_no_kind(self):
        for thing in ["names", (), ("name",), ["names"], ("each",), ("each", ("each", ("each", ("each", MOST)))), 0,
                      True, deep_tuple(), *ODD]:
            for hands in [1, 3, 0, None, True, *ODD]:
                with self.assertRaises(NoKind) as caught:
                    House(thing, hands)
                self.assertIs(type(caught.exception), NoKind)

    def test_no_hands(self):
        for kind in [NAMES, both(MOST, each(LAST))]:
            for thing in [0, -1, -10 ** 20, True, False, "1", "", (), (1,), 1.0, 3.0, *ODD]:
                with self.assertRaises(NoHands) as caught:
                    House(kind, thing)
                self.assertIs(type(caught.exception), NoHands)

    def test_wish_is_numbered_on_behind_a_refusal(self):
        house = House(MOST, 1)
        self.check(house, NoWorth, None, house.wish, 0, -1)
        self.assertEqual(house.wish(0, 1), 1)
        self.check(house, NoWorth, None, house.wish, 0, True)
        self.assertEqual(house.wish(0, 1), 2)


class Told(unittest.TestCase):
    def lists_of(self, house):
        return [house.letters(), house.waiting(), house.history(), house.told(0), house.told(1)]

    def some_house(self):
        house = House(NAMES, 2)
        house.wish(0, A)
        house.wish(1, B)
        deliver_all(house, 1, 3, 4, 5)
        self.assertEqual(house.told(0), [AB])
        return house

    def test_a_changed_list_changes_nothing(self):
        house = self.some_house()
        before = snapshot(house)
        for told in self.lists_of(house):
            told.append("more")
            told.reverse()
        for told in self.lists_of(house):
            told.clear()
        self.assertEqual(snapshot(house), before)

    def test_what_is_done_later_does_not_change_a_told_list(self):
        house = self.some_house()
        lists = self.lists_of(house)
        was = [list(told) for told in lists]
        house.wish(0, D)
        deliver_all(house, *house.waiting())
        deliver_all(house, *house.waiting())
        house.fall(1)
        self.assertEqual(lists, was)
        for told, now in zip(lists[:4], self.lists_of(house)):
            self.assertNotEqual(told, now)

    def test_no_two_told_are_one(self):
        house = House(MOST, 2)
        lists = [told for _ in range(2) for told in self.lists_of(house)]
        self.assertEqual(len({id(told) for told in lists}), len(lists))

    def test_two_houses_are_two(self):
        one, other = House(MOST, 2), House(MOST, 2)
        one.wish(0, 4)
        self.assertEqual(snapshot(other), snapshot(House(MOST, 2)))

    def test_waiting_is_rising_in_any_order_of_letters(self):
        house = House(MOST, 4)
        house.wish(0, 1)
        house.wish(3, 2)
        self.assertEqual(house.waiting(), [1, 2, 3, 4, 5, 6])
        deliver_all(house, 5, 2)
        self.assertEqual(house.waiting(), [1, 3, 4, 6, 7, 8])
        deliver_all(house, 5)
        self.assertEqual(house.waiting(), [1, 3, 4, 6, 7, 8, 9])

    def test_history_has_all_in_its_order(self):
        house = House(NAMES, 2)
        house.wish(1, ())
        house.wish(0, A)
        house.wish(0, B)
        house.again(0)
        deliver_all(house, 2, 4)
        house.fall(1)
        self.assertEqual(house.history(), [
            ("wish", 1, 1, ()), ("ask", 1, 1, ()), ("wish", 0, 2, A), ("ask", 0, 1, A), ("wish", 0, 3, B),
            ("tell", 0, A), ("ask", 0, 2, AB), ("fall", 1),
        ])

    def test_letters_and_events_are_tuples(self):
        house = self.some_house()
        for told in house.letters():
            self.assertIsInstance(told, tuple)
            self.assertIsInstance(told[3], tuple)
        for told in house.history():
            self.assertIsInstance(told, tuple)
        self.assertIsInstance(house.asks(1), tuple)


if __name__ == "__main__":
    unittest.main()
