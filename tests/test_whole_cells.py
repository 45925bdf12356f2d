"""[4]: the promise of the whole, as far as it speaks of cells, over many orders."""

import copy
import random
import unittest

from growjoin.cells import Cells
from growjoin.orders import is_order, order, ring, strange
from growjoin.roads import drive
from helper import Tale, run_cells


class Checks(unittest.TestCase):
    """What must hold of every history of cells."""

    def check_history(self, history):
        tale = Tale(history)
        self.check_looks(tale)
        self.check_order(tale)
        self.check_told_order(history)
        return tale

    def check_looks(self, tale):
        for look in tale.looks:
            self.assertEqual(tale.told[look], sorted(tale.told[look]))
            for other in tale.looks:
                self.assertTrue(tale.sees[look] <= tale.sees[other] or tale.sees[other] <= tale.sees[look])
                if tale.ended_ahead(look, other):
                    self.assertLessEqual(tale.sees[look], tale.sees[other])
            for write in tale.number:
                if tale.ended_ahead(write, look):
                    self.assertIn(write, tale.sees[look])
                if write in tale.sees[look]:
                    self.assertLess(tale.begun[write], tale.ended[look])
                if tale.doer[write] == tale.doer[look] and tale.begun[write] < tale.begun[look]:
                    self.assertIn(write, tale.sees[look])

    def check_order(self, tale):
        """Done one by one in some order, each look tells what it told."""
        row = tale.find_order()
        self.assertIsNotNone(row)
        now = {}
        for place, deed in enumerate(row):
            if deed in tale.number:
                now[tale.doer[deed]] = tale.number[deed]
            else:
                self.assertEqual(tale.told[deed], sorted(now.items()))
            for later in row[place + 1:]:
                self.assertFalse(tale.ended_ahead(later, deed))

    def check_told_order(self, history):
        """An order is told, and new cells at which its deeds are done one by one tell what was told."""
        tale = Tale(history)
        row = order(history)
        self.assertEqual(sorted(row), tale.counting)
        self.assertTrue(tale.keeps_time(row))
        self.assertTrue(tale.is_done_so(row))
        self.assertEqual((is_order(history, row), strange(history), ring(history)), (True, None, None))


class ManyOrders(Checks):
    def test_some_fall_and_some_letters_never_come(self):
        chance = random.Random(41)
        falls = looks = open_writes = 0
        for _ in range(900):
            hands = chance.choice([1, 2, 3, 3, 4, 5, 6, 7, 8, 9])
            most_falls = chance.choice([0, (hands - 1) // 2, hands])
            history = run_cells(chance, hands, most_falls, chance.choice([40, 80, 300])).history()
            tale = self.check_history(history)
            falls += sum(event[0] == "fall" for event in history)
            looks += len(tale.looks)
            open_writes += sum(deed not in tale.ended for deed in tale.counting)
        # Else what is looked for above would hardly have been tried.
        self.assertGreater(falls, 300)
        self.assertGreater(looks, 1000)
        self.assertGreater(open_writes, 20)

    def test_fewer_than_half_fall_and_all_letters_come(self):
        chance = random.Random(42)
        for _ in range(400):
            hands = chance.choice([1, 2, 3, 3, 4, 5, 6, 7, 8, 9])
            cells = run_cells(chance, hands, (hands - 1) // 2, 120)
            drive(cells, [chance.randrange(1000) for _ in range(chance.randrange(7))])
            tale = self.check_history(cells.history())
            for deed in tale.begun:
                if not cells.has_fallen(tale.doer[deed]):
                    self.assertIsNotNone(cells.result(deed))
            for hand in range(hands):
                if not cells.has_fallen(hand):
                    cells.look(hand)
            drive(cells, [chance.randrange(1000)])
            self.check_history(cells.history())

    def test_some_write_while_others_look_and_then_the_other_way_round(self):
        for hands in range(2, 10):
            for seed in range(6):
                chance = random.Random(seed)
                cells = Cells(hands)
                for hand in range(hands):
                    if hand % 2:
                        cells.write(hand, hand + 1)
                    else:
                        cells.look(hand)
                drive(cells, [chance.randrange(99) for _ in range(50)], most=10 ** 5)
                for hand in range(hands):
                    if hand % 2:
                        cells.look(hand)
                    else:
                        cells.write(hand, hand + 1)
                drive(cells, [chance.randrange(99) for _ in range(50)], most=10 ** 5)
                self.check_history(cells.history())


class AllOrders(Checks):
    """Every order of deeds and letters there is, each letter brought once."""

    def follow(self, cells, deeds, ends):
        moved = False
        history = cells.history()
        over = {event[1] for event in history if event[0] == "end"}
        busy = {event[2] for event in history if event[0] == "begin" and event[1] not in over}
        for hand, numbers in enumerate(deeds):
            if numbers and hand not in busy:
                later = copy.deepcopy(cells)
                if numbers[0] is None:
                    later.look(hand)
                else:
                    later.write(hand, numbers[0])
                self.follow(later, [rest[1:] if at == hand else rest for at, rest in enumerate(deeds)], ends)
                moved = True
        for number in cells.waiting():
            later = copy.deepcopy(cells)
            later.deliver(number)
            self.follow(later, deeds, ends)
            moved = True
        if not moved:
            self.check_history(history)
            ends.add(str([event[2] for event in sorted(history) if event[0] == "end" and event[2] is not True]))

    def test_two_hands_a_write_and_two_looks(self):
        ends = set()
        self.follow(Cells(2), [[7], [None, None]], ends)
        self.assertEqual(ends, {"[[], []]", "[[], [(0, 7)]]", "[[(0, 7)], [(0, 7)]]"})

    def test_two_hands_that_look_and_write(self):
        ends = set()
        self.follow(Cells(2), [[None, 7], [8]], ends)
        self.assertEqual(ends, {"[[]]", "[[(1, 8)]]"})

    def test_three_hands_a_write(self):
        ends = set()
        self.follow(Cells(3), [[7], [], []], ends)
        self.assertEqual(ends, {"[]"})


if __name__ == "__main__":
    unittest.main()
