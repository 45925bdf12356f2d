"""[2], [3] and [4] of all modules together: what one of them tells is handed in to the others."""

import random
import unittest

from growjoin.cells import Cells
from growjoin.chains import askings, chain, wrong
from growjoin.ends import ends, way
from growjoin.errors import (
    Busy, Fallen, JoinError, NoDeed, NoHand, NoHands, NoKind, NoLetter, NoText, NoWorth, TooLong,
)
from growjoin.house import House
from growjoin.joins import is_kind, is_worth, lack, pieces, under
from growjoin.orders import is_order, order
from growjoin.roads import drive, play
from growjoin.texts import read_kind, read_worth, show_kind, show_worth
from helper import LAST, MOST, NAMES, ODD, SOME_KINDS, each, run_cells, run_house, worth_of


class HandedOn(unittest.TestCase):
    def check_written(self, kind, worth):
        self.assertTrue(is_worth(kind, worth))
        self.assertEqual(read_worth(read_kind(show_kind(kind)), show_worth(kind, worth)), worth)

    def test_worths_and_histories_of_a_house(self):
        chance = random.Random(1)
        for _ in range(300):
            hands = chance.randint(1, 9)
            kind = chance.choice(SOME_KINDS)
            house = run_house(chance, kind, hands, chance.choice([0, 1, hands]))
            history = house.history()
            self.assertTrue(is_kind(house.kind()))
            self.assertIsNone(wrong(house.kind(), house.hands(), history))
            for worth in chain(kind, history):
                self.check_written(kind, worth)
                # What one house told is wished at another one.
                other = House(kind, 1)
                other.wish(0, worth)
                self.assertEqual(other.told(0), [worth])
            for hand, times, wishes in askings(kind, history):
                self.assertLessEqual(times, wishes + 1)
                self.assertEqual(house.has_fallen(hand), ("fall", hand) in history)
            for hand in range(hands):
                for worth in (house.held(hand), house.purse(hand), lack(kind, house.held(hand), house.purse(hand))):
                    self.check_written(kind, worth)
                for piece in pieces(kind, house.held(hand)):
                    self.check_written(kind, piece)
                    self.assertTrue(under(kind, piece, house.held(hand)))

    def test_letters_of_cells(self):
        chance = random.Random(2)
        for _ in range(60):
            cells = run_cells(chance, chance.randint(1, 9), 1)
            for number, sender, receiver, body in cells.letters():
                for worth in body[2:]:
                    self.check_written(each(LAST), worth)
            row = order(cells.history())
            self.assertTrue(is_order(cells.history(), row))

    def test_ends_and_ways(self):
        chance = random.Random(3)
        for _ in range(60):
            kind = chance.choice(SOME_KINDS)
            worths = [worth_of(chance, kind) for _ in range(3)]
            ones, others = worths[:2], worths[2:]
            for end in ends(kind, ones, others):
                house = House(kind, 2)
                left = [list(ones), list(others)]
                for word, which in way(kind, ones, others, end):
                    if word == "wish":
                        house.wish(which, left[which].pop(0))
                    else:
                        self.assertEqual(play(house, [which]), ["came"])
                drive(house, [], most=0)
                self.assertEqual((tuple(house.told(0)), tuple(house.told(1))), end)
                self.assertIsNone(wrong(kind, 2, house.history()))
                for worth in end[0] + end[1]:
                    self.check_written(kind, worth)
                # Worths that were told are wished in turn.
                self.assertTrue(ends(kind, list(end[0][-1:]), list(end[1][-1:])))

    def test_results_in_the_hands_of_the_asker_change_no_order(self):
        cells = run_cells(random.Random(7), 3, 0, 400)
        history = cells.history()
        row = order(history)
        for event in cells.history():
            if event[0] == "end" and event[2] is not True:
                event[2].append((8, 1))
        for deed in row:
            if isinstance(cells.result(deed), list):
                cells.result(deed).clear()
        row.reverse()
        self.assertEqual(order(history), order(cells.history()))
        self.assertEqual(row[::-1], order(history))


class Refused(unittest.TestCase):
    """Each refusal there is, where it is due, and no other one."""

    def waiting_house(self):
        house = House(NAMES, 2)
        house.wish(0, ("a",))
        return house

    def busy_cells(self):
        cells = Cells(2)
        cells.write(0, 5)
        return cells

    def fallen_house(self):
        house = House(NAMES, 2)
        house.fall(1)
        return house

    def test_each(self):
        calls = {
            NoKind: [lambda: House(("none",), 2), lambda: House(None, None)],
            NoHands: [lambda: House(NAMES, 0), lambda: Cells(0), lambda: Cells(True)],
            NoHand: [lambda: House(NAMES, 2).wish(2, None), lambda: Cells(2).look(2)],
            NoWorth: [lambda: House(NAMES, 2).wish(0, "a"), lambda: self.fallen_house().wish(1, 7)],
            Fallen: [lambda: self.fallen_house().wish(1, ("a",)), lambda: self.fallen_house().fall(1)],
            NoLetter: [lambda: House(NAMES, 2).deliver(1), lambda: play(self.waiting_house(), [1, 3])],
            TooLong: [lambda: drive(self.waiting_house(), [], most=0), lambda: drive(self.busy_cells(), [1], most=1)],
            Busy: [lambda: self.busy_cells().look(0), lambda: self.busy_cells().write(0, 6)],
            NoDeed: [lambda: self.busy_cells().result(2), lambda: Cells(1).result(1)],
            NoText: [lambda: read_kind("none"), lambda: read_worth(MOST, "01")],
        }
        self.assertEqual(set(calls), set(JoinError.__subclasses__()))
        for found, many in calls.items():
            for call in many:
                with self.assertRaises(JoinError) as caught:
                    call()
                self.assertIs(type(caught.exception), found)

    def test_anything(self):
        house, cells = self.waiting_house(), self.busy_cells()
        for thing in ODD:
            for found, call in [
                (NoKind, lambda: House(thing, 1)), (NoHands, lambda: House(NAMES, thing)),
                (NoHands, lambda: Cells(thing)), (NoHand, lambda: house.told(thing)), (NoWorth, lambda: house.wish(0, thing)),
                (NoLetter, lambda: house.deliver(thing)), (NoLetter, lambda: play(cells, [thing])),
                (NoDeed, lambda: cells.result(thing)), (NoText, lambda: read_kind(thing)),
                (NoText, lambda: read_worth(NAMES, thing)),
            ]:
                with self.assertRaises(found):
                    call()
            self.assertIs(is_kind(thing), False)
            self.assertIs(is_worth(NAMES, thing), False)
            self.assertIs(is_order(cells.history(), [thing]), False)


if __name__ == "__main__":
    unittest.main()
