"""[19], [20] and [21], [2] and [3]: cells, deed by deed and letter by letter."""

import random
import unittest

from growjoin.cells import Cells
from growjoin.errors import Busy, Fallen, NoDeed, NoHand, NoHands, NoLetter
from growjoin.house import House
from growjoin.roads import drive, play
from helper import LAST, ODD, each, free_hands, run_cells, snapshot_of_cells


def newest(cells, many):
    return cells.letters()[-many:]


def begin_write(deed, hand, number):
    return ("begin", deed, hand, "write", number)


def begin_look(deed, hand):
    return ("begin", deed, hand, "look", None)


def written(hand, stamp, number):
    """The table that a write wishes for."""
    return (("abcdefghijklmnopqrstuvwxyz"[hand], (stamp, number)),)


def done(cells, deed):
    """Bring all letters; the result of the deed then."""
    drive(cells, [])
    return cells.result(deed)


class AtFirst(unittest.TestCase):
    def test_every_cells_are_empty_at_first(self):
        for hands in [1, 2, 3, 5, 9, 12]:
            self.assertEqual(snapshot_of_cells(Cells(hands), hands), ([], [], [], [], [False] * hands))

    def test_argument_names(self):
        cells = Cells(hands=2)
        self.assertEqual(cells.write(number=7, hand=0), 1)
        self.assertEqual(cells.look(hand=1), 2)
        self.assertEqual(cells.deliver(number=1), "came")
        self.assertIsNone(cells.result(deed=1))
        self.assertEqual(cells.again(hand=0), 1)
        self.assertIsNone(cells.fall(hand=1))
        self.assertIs(cells.has_fallen(hand=1), True)


class OneHand(unittest.TestCase):
    def test_deeds_are_over_at_once(self):
        cells = Cells(1)
        self.assertEqual([cells.look(0), cells.write(0, 7), cells.look(0), cells.write(0, -2), cells.look(0)],
                         [1, 2, 3, 4, 5])
        self.assertEqual([cells.result(deed) for deed in range(1, 6)], [[], True, [(0, 7)], True, [(0, -2)]])
        self.assertEqual(cells.history(), [
            begin_look(1, 0), ("end", 1, []), begin_write(2, 0, 7), ("end", 2, True), begin_look(3, 0),
            ("end", 3, [(0, 7)]), begin_write(4, 0, -2), ("end", 4, True), begin_look(5, 0), ("end", 5, [(0, -2)]),
        ])
        self.assertEqual((cells.letters(), cells.waiting()), ([], []))

    def test_again_has_nothing_to_send(self):
        cells = Cells(1)
        cells.write(0, 7)
        self.assertEqual(cells.again(0), 0)

    def test_it_falls(self):
        cells = Cells(1)
        cells.write(0, 7)
        self.assertIsNone(cells.fall(0))
        self.assertEqual((cells.has_fallen(0), cells.history()[-1], cells.result(1)), (True, ("fall", 0), True))


class TwoHands(unittest.TestCase):
    def test_a_write(self):
        cells = Cells(2)
        self.assertEqual(cells.write(1, 30), 1)
        self.assertEqual(cells.letters(), [(1, 1, 0, ("ask", 1, (("b", (1, 30)),)))])
        self.assertIsNone(cells.result(1))
        self.assertEqual(cells.history(), [begin_write(1, 1, 30)])
        self.assertEqual(cells.deliver(1), "came")
        self.assertEqual(newest(cells, 1), [(2, 0, 1, ("yes", 1))])
        self.assertIsNone(cells.result(1))
        self.assertEqual(cells.deliver(2), "came")
        self.assertIs(cells.result(1), True)
        self.assertEqual(cells.history(), [begin_write(1, 1, 30), ("end", 1, True)])
        self.assertIs(cells.history()[1][2], True)

    def test_a_look_ahead_of_any_write(self):
        cells = Cells(2)
        self.assertEqual(cells.look(0), 1)
        self.assertEqual(cells.letters(), [(1, 0, 1, ("ask", 1, ()))])
        self.assertIsNone(cells.result(1))
        self.assertEqual(play(cells, [1]), ["came"])
        self.assertIsNone(cells.result(1))
        self.assertEqual(play(cells, [2]), ["came"])
        self.assertEqual(cells.result(1), [])
        self.assertEqual(cells.history(), [begin_look(1, 0), ("end", 1, [])])

    def test_a_look_that_finds_more(self):
        cells = Cells(2)
        cells.write(0, 5)
        self.assertEqual(cells.look(1), 2)
        self.assertEqual(newest(cells, 1), [(2, 1, 0, ("ask", 1, ()))])
        cells.deliver(2)
        self.assertEqual(newest(cells, 1), [(3, 0, 1, ("more", 1, (("a", (1, 5)),)))])
        cells.deliver(3)
        self.assertIsNone(cells.result(2))
        self.assertEqual(newest(cells, 1), [(4, 1, 0, ("ask", 2, (("a", (1, 5)),)))])
        play(cells, [4, 5])
        # The look sees a write that is not over.
        self.assertEqual((cells.result(1), cells.result(2)), (None, [(0, 5)]))
        play(cells, [1, 6])
        self.assertEqual(cells.history(), [
            begin_write(1, 0, 5), begin_look(2, 1), ("end", 2, [(0, 5)]), ("end", 1, True),
        ])

    def test_two_writes_at_once_and_looks(self):
        cells = Cells(2)
        self.assertEqual([cells.write(0, 5), cells.write(1, 6)], [1, 2])
        drive(cells, [])
        self.assertEqual([cells.look(1), cells.look(0)], [3, 4])
        drive(cells, [])
        self.assertEqual([cells.result(deed) for deed in (1, 2, 3, 4)], [True, True, [(0, 5), (1, 6)], [(0, 5), (1, 6)]])

    def test_a_write_over_itself(self):
        cells = Cells(2)
        for stamp, number in enumerate([9, 3, -4, 0, 10 ** 20, 3], start=1):
            deed = cells.write(0, number)
            self.assertEqual(cells.letters()[-1][3][2], (("a", (stamp, number)),))
            self.assertIs(done(cells, deed), True)
            self.assertEqual(done(cells, cells.look(1)), [(0, number)])
            self.assertEqual(done(cells, cells.look(0)), [(0, number)])


class ThreeHands(unittest.TestCase):
    def test_letter_by_letter(self):
        cells = Cells(3)
        table = (("a", (1, 7)),)
        self.assertEqual(cells.write(0, 7), 1)
        self.assertEqual(cells.letters(), [(1, 0, 1, ("ask", 1, table)), (2, 0, 2, ("ask", 1, table))])
        self.assertEqual(play(cells, [2]), ["came"])
        self.assertEqual((newest(cells, 1), cells.result(1)), ([(3, 2, 0, ("yes", 1))], None))
        self.assertEqual(play(cells, [3]), ["came"])
        self.assertIs(cells.result(1), True)
        self.assertEqual(cells.look(1), 2)
        self.assertEqual(newest(cells, 2), [(4, 1, 0, ("ask", 1, ())), (5, 1, 2, ("ask", 1, ()))])
        self.assertEqual(play(cells, [5, 6]), ["came", "came"])
        self.assertEqual(cells.letters()[5:], [
            (6, 2, 1, ("more", 1, table)), (7, 1, 0, ("ask", 2, table)), (8, 1, 2, ("ask", 2, table)),
        ])
        self.assertIsNone(cells.result(2))
        self.assertEqual(cells.waiting(), [1, 4, 7, 8])
        self.assertEqual(play(cells, [7, 9]), ["came", "came"])
        self.assertEqual(cells.result(2), [(0, 7)])
        self.assertEqual(cells.waiting(), [1, 4, 8])
        # What comes late changes nothing any more.
        history = cells.history()
        drive(cells, [2, 1])
        self.assertEqual(cells.history(), history)
        self.assertEqual(history, [begin_write(1, 0, 7), ("end", 1, True), begin_look(2, 1), ("end", 2, [(0, 7)])])

    def test_a_second_write_holds_what_was_told(self):
        cells = Cells(3)
        cells.write(0, 7)
        cells.write(1, 8)
        drive(cells, [])
        self.assertEqual(cells.write(0, 9), 3)
        # Both had asked anew, for both.
        self.assertEqual(newest(cells, 1)[0][1:], (0, 2, ("ask", 3, (("a", (2, 9)), ("b", (1, 8))))))

    def test_stamps_count_the_hands_own_writes_only(self):
        cells = Cells(3)
        cells.look(0)
        drive(cells, [])
        cells.write(1, 4)
        drive(cells, [])
        cells.write(0, 5)
        self.assertEqual(newest(cells, 1)[0][3], ("ask", 2, (("a", (1, 5)),)))
        drive(cells, [])
        cells.look(0)
        drive(cells, [])
        cells.write(0, 6)
        self.assertEqual(newest(cells, 1)[0][3][2], (("a", (2, 6)), ("b", (1, 4))))

    def test_a_look_begins_to_ask_for_what_its_hand_told_last(self):
        cells = Cells(3)
        cells.write(2, 4)
        drive(cells, [])
        cells.look(2)
        body = ("ask", 2, (("c", (1, 4)),))
        self.assertEqual(newest(cells, 2), [(5, 2, 0, body), (6, 2, 1, body)])

    def test_hands_rising_and_those_alone_that_were_written(self):
        cells = Cells(3)
        cells.write(2, 1)
        drive(cells, [])
        self.assertEqual(done(cells, cells.look(0)), [(2, 1)])
        cells.write(0, 2)
        drive(cells, [])
        self.assertEqual(done(cells, cells.look(1)), [(0, 2), (2, 1)])
        cells.write(1, 0)
        drive(cells, [])
        self.assertEqual(done(cells, cells.look(2)), [(0, 2), (1, 0), (2, 1)])

    def test_deeds_are_numbered_over_all_hands(self):
        cells = Cells(3)
        self.assertEqual([cells.look(2), cells.write(0, 1), cells.look(1)], [1, 2, 3])
        drive(cells, [])
        self.assertEqual([cells.write(1, 1), cells.look(0)], [4, 5])


class MoreHands(unittest.TestCase):
    def test_names(self):
        cells = Cells(9)
        for hand in range(9):
            cells.write(hand, 100 + hand)
            self.assertEqual(newest(cells, 1)[0][3], ("ask", 1, written(hand, 1, 100 + hand)))
        drive(cells, [3, 1, 4, 1, 5], most=10 ** 6)
        for hand in range(9):
            self.assertEqual(done(cells, cells.look(hand)), [(hand, 100 + hand) for hand in range(9)])

    def test_more_hands_than_nine(self):
        for hands in (10, 13, 26, 30):
            cells = Cells(hands)
            for hand in reversed(range(hands)):
                cells.write(hand, -hand)
                if hand < 26:
                    self.assertEqual(newest(cells, 1)[0][3], ("ask", 1, written(hand, 1, -hand)))
                drive(cells, [], most=10 ** 6)
            self.assertEqual(done(cells, cells.look(0)), [(hand, -hand) for hand in range(hands)])

    def test_half_of_four_is_not_enough(self):
        cells = Cells(4)
        cells.write(0, 2)
        play(cells, [1, 4])
        self.assertIsNone(cells.result(1))
        play(cells, [2, 5])
        self.assertIs(cells.result(1), True)

    def test_a_hundred_deeds(self):
        cells = Cells(9)
        for deed in range(1, 101):
            free = free_hands(cells, 9)
            if deed % 3:
                self.assertEqual(cells.write(free[deed % len(free)], deed), deed)
            else:
                self.assertEqual(cells.look(free[deed % len(free)]), deed)
            if deed % 5 == 0:
                drive(cells, [deed, 2, 9], most=10 ** 6)
        drive(cells, [], most=10 ** 6)
        self.assertTrue(all(cells.result(deed) is not None for deed in range(1, 101)))


class LateAgainAndNever(unittest.TestCase):
    def test_again(self):
        cells = Cells(3)
        self.assertEqual(cells.again(0), 0)
        cells.write(0, 5)
        self.assertEqual(cells.again(0), 2)
        table = (("a", (1, 5)),)
        self.assertEqual(cells.letters()[2:], [(3, 0, 1, ("ask", 1, table)), (4, 0, 2, ("ask", 1, table))])
        self.assertEqual(cells.history(), [begin_write(1, 0, 5)])
        self.assertEqual(play(cells, [4, 5]), ["came", "came"])
        self.assertIs(cells.result(1), True)
        self.assertEqual(cells.again(0), 0)
        self.assertEqual(cells.waiting(), [1, 2, 3])

    def test_again_of_a_look_to_those_that_have_not_answered(self):
        cells = Cells(5)
        cells.look(2)
        play(cells, [3, 5])
        cells.fall(0)
        self.assertEqual(cells.again(2), 3)
        self.assertEqual(newest(cells, 3), [(6 + at, 2, hand, ("ask", 1, ())) for at, hand in enumerate([0, 1, 4])])

    def test_an_answer_again_ends_no_later_deed(self):
        cells = Cells(2)
        cells.write(0, 5)
        play(cells, [1, 2])
        cells.look(0)
        self.assertEqual(play(cells, [2, 2]), ["came", "came"])
        self.assertIsNone(cells.result(2))
        self.assertEqual(cells.history(), [begin_write(1, 0, 5), ("end", 1, True), begin_look(2, 0)])

    def test_an_ask_that_never_comes(self):
        cells = Cells(3)
        cells.write(0, 5)
        cells.look(2)
        # Hand 1 alone answers both; what is between 0 and 2 never comes.
        play(cells, [1, 5, 4, 6])
        self.assertEqual((cells.result(1), cells.result(2)), (True, None))
        self.assertEqual(newest(cells, 2), [(7, 2, 0, ("ask", 2, (("a", (1, 5)),))), (8, 2, 1, ("ask", 2, (("a", (1, 5)),)))])
        play(cells, [8, 9])
        self.assertEqual(cells.result(2), [(0, 5)])
        self.assertEqual(cells.waiting(), [2, 3, 7])

    def test_a_late_ask_of_an_older_deed(self):
        cells = Cells(3)
        cells.write(0, 5)
        play(cells, [1, 3])
        cells.write(0, 6)
        play(cells, [5, 6])
        self.assertEqual((cells.result(1), cells.result(2)), (True, True))
        before = cells.history()
        self.assertEqual(play(cells, [2, 7]), ["came", "came"])
        self.assertEqual(newest(cells, 1), [(7, 2, 0, ("more", 1, (("a", (2, 6)),)))])
        self.assertEqual(cells.history(), before)


class Falls(unittest.TestCase):
    def test_in_the_midst_of_a_write(self):
        cells = Cells(3)
        cells.write(0, 5)
        cells.deliver(1)
        self.assertIsNone(cells.fall(0))
        self.assertEqual([cells.has_fallen(hand) for hand in range(3)], [True, False, False])
        self.assertEqual(cells.deliver(3), "lost")
        self.assertIsNone(cells.result(1))
        # It is never over, yet a look sees it.
        self.assertEqual(done(cells, cells.look(1)), [(0, 5)])
        self.assertIsNone(cells.result(1))
        self.assertEqual(cells.history(), [
            begin_write(1, 0, 5), ("fall", 0), begin_look(2, 1), ("end", 2, [(0, 5)]),
        ])

    def test_in_the_midst_of_a_look(self):
        cells = Cells(3)
        cells.look(0)
        cells.fall(0)
        drive(cells, [])
        self.assertIsNone(cells.result(1))
        self.assertEqual(cells.history(), [begin_look(1, 0), ("fall", 0)])

    def test_a_write_that_nobody_heard_of(self):
        cells = Cells(3)
        cells.write(0, 5)
        cells.fall(0)
        deed = cells.look(2)
        play(cells, [4, 5])
        self.assertEqual((newest(cells, 1), cells.result(deed)), ([(5, 1, 2, ("yes", 1))], []))

    def test_letters_to_a_fallen_hand_are_lost(self):
        cells = Cells(3)
        cells.write(0, 5)
        cells.fall(1)
        before = snapshot_of_cells(cells, 3)
        self.assertEqual(cells.deliver(1), "lost")
        after = snapshot_of_cells(cells, 3)
        self.assertEqual((before[1], after[1]), ([1, 2], [2]))
        self.assertEqual((after[0], after[2:]), (before[0], before[2:]))
        self.assertIs(done(cells, 1), True)

    def test_half_have_fallen(self):
        cells = Cells(2)
        cells.write(0, 5)
        cells.fall(1)
        drive(cells, [])
        self.assertEqual((cells.result(1), cells.waiting()), (None, []))


class LikeAHouse(unittest.TestCase):
    """[21]: letters, waiting and all the rest are those of a house that is asked the same."""

    def same_steps(self, chance, hands):
        """Cells and a house, done the same by chance; and the history that the cells must tell."""
        cells, house = Cells(hands), House(each(LAST), hands)
        history, doing, stamps, deeds = [], {}, {}, 0
        for step in range(chance.randrange(10, 90)):
            free = [hand for hand in range(hands) if hand not in doing and not house.has_fallen(hand)]
            standing = [hand for hand in range(hands) if not house.has_fallen(hand)]
            dice = chance.random()
            if dice < 0.35 and free:
                hand, deeds = chance.choice(free), deeds + 1
                if dice < 0.2:
                    stamps[hand] = stamps.get(hand, 0) + 1
                    house.wish(hand, written(hand, stamps[hand], step))
                    self.assertEqual(cells.write(hand, step), deeds)
                    history.append(begin_write(deeds, hand, step))
                else:
                    house.wish(hand, ())
                    self.assertEqual(cells.look(hand), deeds)
                    history.append(begin_look(deeds, hand))
                doing[hand] = (deeds, dice < 0.2, len(house.told(hand)) if hands > 1 else len(house.told(hand)) - 1)
            elif dice < 0.38 and standing:
                hand = chance.choice(standing)
                self.assertIsNone(cells.fall(hand))
                house.fall(hand)
                history.append(("fall", hand))
            elif dice < 0.42 and standing:
                hand = chance.choice(standing)
                self.assertEqual(cells.again(hand), house.again(hand))
            elif house.letters():
                numbers = house.waiting() if dice < 0.9 and house.waiting() else range(1, len(house.letters()) + 1)
                number = chance.choice(numbers)
                self.assertEqual(cells.deliver(number), house.deliver(number))
            for hand, (deed, is_write, many) in list(doing.items()):
                if len(house.told(hand)) > many:
                    table = house.told(hand)[-1]
                    seen = [("abcdefghi".index(name), number) for name, (stamp, number) in table]
                    history.append(("end", deed, True if is_write else seen))
                    del doing[hand]
            self.check_same(cells, house, history)
        return history

    def check_same(self, cells, house, history):
        self.assertEqual(cells.letters(), house.letters())
        self.assertEqual(cells.waiting(), house.waiting())
        self.assertEqual(cells.history(), history)
        for hand in range(house.hands()):
            self.assertEqual(cells.has_fallen(hand), house.has_fallen(hand))
        results = {event[1]: event[2] for event in history if event[0] == "end"}
        for event in history:
            if event[0] == "begin":
                self.assertEqual(cells.result(event[1]), results.get(event[1]))

    def test_deed_by_deed_and_letter_by_letter(self):
        chance = random.Random(211)
        words = []
        for _ in range(300):
            history = self.same_steps(chance, chance.choice([1, 2, 3, 3, 4, 5, 9]))
            words += [event[0] for event in history]
        self.assertGreater(min(words.count(word) for word in ("begin", "end", "fall")), 300)


class Refusals(unittest.TestCase):
    def check(self, cells, found, field, call, *arguments):
        before = snapshot_of_cells(cells, 3)
        with self.assertRaises(found) as caught:
            call(*arguments)
        self.assertIs(type(caught.exception), found)
        self.assertIs(getattr(caught.exception, field), arguments[0])
        self.assertEqual(snapshot_of_cells(cells, 3), before)

    def busy_cells(self):
        """Cells of three hands: 0 is done with a write, 1 is in the midst of a look, 2 has fallen in its write."""
        cells = Cells(3)
        cells.write(0, 5)
        play(cells, [1, 3])
        cells.look(1)
        cells.write(2, 6)
        cells.fall(2)
        self.assertEqual((cells.result(1), cells.result(2), cells.result(3)), (True, None, None))
        return cells

    def test_no_hands(self):
        for thing in [0, -1, -10 ** 20, True, False, "1", "", (), (1,), 1.0, 3.0, *ODD]:
            with self.assertRaises(NoHands) as caught:
                Cells(thing)
            self.assertIs(type(caught.exception), NoHands)

    def test_no_hand(self):
        cells = self.busy_cells()
        for thing in [3, 4, -1, 10 ** 21, -3, True, False, "0", "a", "", (0,), (), 0.0, 1.0, *ODD]:
            self.check(cells, NoHand, "hand", cells.write, thing, 1)
            for call in [cells.look, cells.fall, cells.again, cells.has_fallen]:
                self.check(cells, NoHand, "hand", call, thing)

    def test_fallen(self):
        cells = self.busy_cells()
        self.check(cells, Fallen, "hand", cells.fall, 2)
        self.check(cells, Fallen, "hand", cells.again, 2)
        free = Cells(3)
        free.fall(1)
        self.check(free, Fallen, "hand", free.write, 1, 5)
        self.check(free, Fallen, "hand", free.look, 1)
        self.check(free, Fallen, "hand", free.fall, 1)
        self.check(free, Fallen, "hand", free.again, 1)

    def test_busy(self):
        cells = self.busy_cells()
        self.check(cells, Busy, "hand", cells.write, 1, 9)
        self.check(cells, Busy, "hand", cells.look, 1)
        drive(cells, [])
        self.assertEqual(cells.result(2), [(0, 5), (2, 6)])
        self.assertEqual(cells.write(1, 9), 4)
        self.check(cells, Busy, "hand", cells.write, 1, 9)
        self.check(cells, Busy, "hand", cells.look, 1)
        self.assertEqual(cells.look(0), 5)
        self.check(cells, Busy, "hand", cells.look, 0)

    def test_again_and_fall_of_a_busy_hand(self):
        cells = self.busy_cells()
        self.assertEqual(cells.again(1), 2)
        self.assertIsNone(cells.fall(1))

    def test_which_goes_first(self):
        cells = self.busy_cells()
        # Hand 2 has fallen and its deed is not over.
        self.check(cells, Fallen, "hand", cells.write, 2, 5)
        self.check(cells, Fallen, "hand", cells.look, 2)
        for thing in [3, None, True]:
            self.check(cells, NoHand, "hand", cells.write, thing, 5)

    def test_no_deed(self):
        cells = self.busy_cells()
        for thing in [0, 4, -1, -3, 10 ** 21, True, False, "1", "", (1,), (), 1.0, 3.0, *ODD]:
            self.check(cells, NoDeed, "deed", cells.result, thing)
        empty = Cells(3)
        for thing in [0, 1, True, None]:
            self.check(empty, NoDeed, "deed", empty.result, thing)

    def test_no_letter(self):
        cells = self.busy_cells()
        many = len(cells.letters())
        for thing in [0, many + 1, -1, 10 ** 21, True, False, "1", "", (1,), (), 1.0, *ODD]:
            self.check(cells, NoLetter, "number", cells.deliver, thing)
        empty = Cells(3)
        for thing in [0, 1, True]:
            self.check(empty, NoLetter, "number", empty.deliver, thing)

    def test_a_refusal_counts_no_deed_and_no_stamp(self):
        cells = self.busy_cells()
        self.check(cells, Busy, "hand", cells.write, 1, 9)
        drive(cells, [])
        self.assertEqual(cells.write(1, 8), 4)
        table = dict(newest(cells, 1)[0][3][2])
        self.assertEqual(table["b"], (1, 8))


class Told(unittest.TestCase):
    def some_cells(self):
        """Deeds 1 and 2 are looks ahead of any write, 3 a write, 4 and 5 looks that see it, 6 is not over."""
        cells = Cells(3)
        for deed in [cells.look(0), cells.look(1)]:
            drive(cells, [])
            self.assertEqual(cells.result(deed), [])
        cells.write(2, 9)
        drive(cells, [])
        for hand in (0, 1):
            self.assertEqual(done(cells, cells.look(hand)), [(2, 9)])
        cells.write(0, 1)
        return cells

    def lists_of(self, cells):
        results = [cells.result(deed) for deed in (1, 2, 4, 5)]
        history = cells.history()
        inside = [event[2] for event in history if event[0] == "end" and event[2] is not True]
        self.assertEqual(len(inside), 4)
        return [cells.letters(), cells.waiting(), history, *results, *inside]

    def test_a_changed_list_changes_nothing(self):
        cells = self.some_cells()
        before = snapshot_of_cells(cells, 3)
        for told in self.lists_of(cells):
            told.append("more")
            told.reverse()
        self.assertEqual(snapshot_of_cells(cells, 3), before)
        for told in self.lists_of(cells):
            told.clear()
        self.assertEqual(snapshot_of_cells(cells, 3), before)

    def test_what_is_done_later_does_not_change_a_told_list(self):
        cells = self.some_cells()
        lists, copies = self.lists_of(cells), self.lists_of(cells)
        drive(cells, [1])
        cells.look(2)
        drive(cells, [])
        cells.fall(1)
        self.assertEqual(lists, copies)
        self.assertNotEqual(lists[0], cells.letters())
        self.assertNotEqual(lists[1], cells.waiting())
        self.assertNotEqual(lists[2], cells.history())

    def test_no_two_told_are_one(self):
        cells = self.some_cells()
        lists = self.lists_of(cells) + self.lists_of(cells)
        self.assertEqual(len({id(told) for told in lists}), len(lists))

    def test_two_cells_are_two(self):
        one, other = Cells(2), Cells(2)
        one.write(0, 4)
        drive(one, [])
        self.assertEqual(snapshot_of_cells(other, 2), snapshot_of_cells(Cells(2), 2))
        self.assertEqual(other.look(0), 1)

    def test_kinds_of_values(self):
        cells = run_cells(random.Random(3), 3, 1)
        for event in cells.history():
            self.assertIsInstance(event, tuple)
            if event[0] == "end" and event[2] is not True:
                self.assertIsInstance(event[2], list)
                self.assertTrue(all(isinstance(pair, tuple) for pair in event[2]))


if __name__ == "__main__":
    unittest.main()
