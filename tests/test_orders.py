"""[22], [23] and [24], [2]: ties of deeds, strange looks, orders and rings of histories of cells."""

import copy
import itertools
import random
import unittest

from growjoin.cells import Cells
from growjoin.orders import is_order, order, ring, strange, ties
from growjoin.roads import drive
from helper import ODD, Tale, made_history, put_otherwise, renumbered, run_cells


def write(deed, hand, number):
    return ("begin", deed, hand, "write", number)


def look(deed, hand):
    return ("begin", deed, hand, "look", None)


def end(deed, result=True):
    return ("end", deed, result)


FALL = ("fall", 0)
GREAT = 10 ** 21 - 1

# Hand 0 writes 5, then 6, while hand 1 looks twice and hand 2 writes 7, which is never over, nor seen.
ORDINARY = [
    write(1, 0, 5), look(2, 1), write(3, 2, 7), end(2, []), end(1), write(4, 0, 6), look(5, 1), end(5, [(0, 5)]),
    end(4),
]
# Two looks that see two writes in two orders.
CROSSED = [
    write(1, 0, 5), write(2, 1, 6), look(3, 2), look(4, 3), end(3, [(0, 5)]), end(4, [(1, 6)]), end(1), end(2),
]


def some_histories(seed, many):
    """Histories that cells tell, and made up ones, as they are or with one to three things put otherwise."""
    chance = random.Random(seed)
    histories = []
    for at in range(many):
        hands = chance.choice([1, 2, 2, 3, 3, 4, 5, 7, 9])
        if at % 2:
            history = made_history(chance, hands, chance.randrange(10, 90))
        else:
            history = run_cells(chance, hands, chance.choice([0, 1, hands]), 60 * hands).history()
        if at % 5 == 0:
            history = renumbered(history, lambda number: number * 10 ** 18 - 3)
        histories.append(put_otherwise(chance, history, at // 2 % 4))
    return histories


def small_histories(seed, many):
    """Such ones of few deeds."""
    chance = random.Random(seed)
    histories = []
    for at in range(many):
        history = made_history(chance, chance.choice([2, 3, 4]), chance.randrange(24))
        histories.append(put_otherwise(chance, history, at % 4))
    return [history for history in histories if len(Tale(history).counting) <= 5]


def closed(pairs):
    """All pairs from which ties lead from one to the other, over others too."""
    pairs = set(pairs)
    deeds = {deed for pair in pairs for deed in pair}
    for middle in deeds:
        aheads = [one for one, other in pairs if other == middle]
        behinds = [other for one, other in pairs if one == middle]
        pairs |= {(one, other) for one in aheads for other in behinds}
    return pairs


class Counting(unittest.TestCase):
    """[22]: which deeds count, seen by the order of them all."""

    def test_those_that_are_over(self):
        self.assertEqual(order([write(1, 0, 5), end(1), look(2, 1), end(2, [(0, 5)])]), [1, 2])

    def test_a_write_that_is_not_over_and_that_no_look_sees(self):
        self.assertEqual(order([write(1, 0, 5)]), [])
        self.assertEqual(order([write(1, 0, 5), look(2, 1), end(2, [])]), [2])
        self.assertEqual(ties([write(1, 0, 5), look(2, 1), end(2, [])]), [])

    def test_a_write_that_is_not_over_and_that_a_look_sees(self):
        history = [write(1, 0, 5), look(2, 1), end(2, [(0, 5)])]
        self.assertEqual((ties(history), order(history)), ([(1, 2)], [1, 2]))
        self.assertEqual(order([write(1, 0, 5), FALL, look(2, 1), end(2, [(0, 5)])]), [1, 2])

    def test_a_look_that_is_not_over(self):
        self.assertEqual(order([look(1, 0)]), [])
        history = [look(1, 0), write(2, 1, 5), end(2)]
        self.assertEqual((ties(history), order(history)), ([], [2]))
        self.assertEqual(order([write(1, 1, 5), look(2, 0), FALL]), [])

    def test_a_look_that_sees_all_up_to_the_told_one(self):
        history = [write(1, 0, 5), end(1), write(2, 0, 6), end(2), write(3, 0, 7), look(4, 1), end(4, [(0, 6)]), end(3)]
        self.assertEqual(ties(history), [(1, 2), (1, 3), (1, 4), (2, 3), (2, 4), (4, 3)])
        self.assertEqual(order(history), [1, 2, 4, 3])

    def test_a_look_that_tells_what_none_of_the_hands_writes_has_sees_none_of_them(self):
        # Hand 1 wrote 6, but of hand 0 it is told.
        history = [write(1, 0, 5), write(2, 1, 6), look(3, 2), end(3, [(0, 6)]), end(1), end(2)]
        self.assertEqual(ties(history), [(3, 1), (3, 2)])
        self.assertEqual((strange(history), order(history), ring(history)), (3, None, None))

    def test_a_write_that_only_a_strange_look_sees_counts(self):
        history = [look(1, 1), end(1, [(0, 5)]), write(2, 0, 4), end(2), write(3, 0, 5)]
        self.assertEqual(ties(history), [(1, 2), (1, 3), (2, 1), (2, 3), (3, 1)])
        self.assertEqual((strange(history), order(history)), (1, None))

    def test_the_empty_history(self):
        for history in ([], [FALL]):
            self.assertEqual((ties(history), strange(history), order(history), ring(history)), ([], None, [], None))
            self.assertIs(is_order(history, []), True)
            self.assertIs(is_order(history, [1]), False)


class Ties(unittest.TestCase):
    """[23]: ties."""

    def test_one_ended_ahead_of_the_beginning_of_the_other(self):
        self.assertEqual(ties([look(1, 0), end(1, []), look(2, 1), end(2, [])]), [(1, 2)])
        self.assertEqual(ties([look(1, 0), look(2, 1), end(1, []), end(2, [])]), [])
        self.assertEqual(ties([write(1, 0, 5), end(1), write(2, 1, 5), end(2)]), [(1, 2)])
        self.assertEqual(ties([write(1, 0, 5), write(2, 1, 5), end(1), end(2)]), [])
        self.assertEqual(ties([look(1, 0), end(1, []), look(2, 0), end(2, [])]), [(1, 2)])

    def test_one_that_is_not_over_ended_ahead_of_none(self):
        history = [write(1, 0, 5), look(2, 1), end(2, [(0, 5)]), look(3, 2), end(3, [(0, 5)])]
        self.assertEqual(ties(history), [(1, 2), (1, 3), (2, 3)])

    def test_two_writes_of_one_hand(self):
        # The first one is never over, so its end ties it to nothing.
        history = [write(1, 0, 5), write(2, 0, 6), look(3, 1), end(3, [(0, 6)])]
        self.assertEqual(ties(history), [(1, 2), (1, 3), (2, 3)])
        history = [write(1, 0, 5), write(2, 1, 6), look(3, 2), end(3, [(0, 5), (1, 6)])]
        self.assertEqual(ties(history), [(1, 3), (2, 3)])

    def test_a_look_that_sees_a_write(self):
        self.assertEqual(ties([look(1, 1), write(2, 0, 5), end(1, [(0, 5)]), end(2)]), [(2, 1)])
        self.assertEqual(order([look(1, 1), write(2, 0, 5), end(1, [(0, 5)]), end(2)]), [2, 1])

    def test_a_look_that_does_not_see_a_write(self):
        self.assertEqual(ties([write(1, 0, 5), look(2, 1), end(2, []), end(1)]), [(2, 1)])
        self.assertEqual(order([write(1, 0, 5), look(2, 1), end(2, []), end(1)]), [2, 1])

    def test_two_looks_are_tied_by_their_times_alone(self):
        history = [look(1, 0), look(2, 1), write(3, 2, 5), end(1, [(2, 5)]), end(2, []), end(3)]
        self.assertEqual(ties(history), [(2, 3), (3, 1)])

    def test_two_parts_at_once_make_one_tie(self):
        history = [write(1, 0, 5), end(1), write(2, 0, 6), end(2), look(3, 1), end(3, [(0, 6)])]
        self.assertEqual(ties(history), [(1, 2), (1, 3), (2, 3)])

    def test_ties_both_ways(self):
        # The look ended ahead of the write that it tells.
        history = [look(1, 1), end(1, [(0, 5)]), write(2, 0, 5), end(2)]
        self.assertEqual(ties(history), [(1, 2), (2, 1)])
        # The write ended ahead of the look that does not tell it.
        history = [write(1, 0, 5), end(1), look(2, 1), end(2, [])]
        self.assertEqual(ties(history), [(1, 2), (2, 1)])

    def test_sorted_by_numbers(self):
        history = [event for deed in range(1, 13) for event in (look(deed, 0), end(deed, []))]
        self.assertEqual(ties(history), [(one, other) for one in range(1, 13) for other in range(one + 1, 13)])

    def test_ordinary(self):
        self.assertEqual(ties(ORDINARY), [(1, 4), (1, 5), (2, 1), (2, 4), (2, 5), (5, 4)])
        self.assertEqual(ties(CROSSED), [(1, 3), (2, 4), (3, 2), (4, 1)])

    def test_many(self):
        both_ways = open_writes = 0
        for history in some_histories(221, 1600):
            tale = Tale(history)
            told = ties(history)
            self.assertEqual(told, tale.find_ties())
            self.assertEqual(told, sorted(set(told)))
            both_ways += any((other, one) in told for one, other in told)
            open_writes += any(deed not in tale.ended for deed in tale.counting)
        # Else what is looked for above would hardly have been tried.
        self.assertGreater(min(both_ways, open_writes), 100)


class Strange(unittest.TestCase):
    """[23]: strange."""

    def test_none(self):
        for history in (ORDINARY, CROSSED, [look(1, 0), end(1, [])], [write(1, 0, 5), end(1)]):
            self.assertIsNone(strange(history))

    def test_a_number_that_none_of_the_hands_writes_has(self):
        self.assertEqual(strange([write(1, 0, 5), end(1), look(2, 1), end(2, [(0, 6)])]), 2)
        self.assertEqual(strange([write(1, 0, 5), write(2, 1, 6), look(3, 2), end(3, [(0, 5), (1, 5)])]), 3)
        self.assertEqual(strange([write(1, 0, 5), end(1), look(2, 1), end(2, [(0, -5)])]), 2)

    def test_a_hand_that_wrote_nothing(self):
        self.assertEqual(strange([look(1, 0), end(1, [(0, 0)])]), 1)
        self.assertEqual(strange([write(1, 0, 5), look(2, 1), end(2, [(0, 5), (8, 5)])]), 2)

    def test_a_write_that_began_behind_the_end(self):
        self.assertEqual(strange([look(1, 1), end(1, [(0, 5)]), write(2, 0, 5), end(2)]), 1)
        self.assertIsNone(strange([look(1, 1), write(2, 0, 5), end(1, [(0, 5)]), end(2)]))
        self.assertIsNone(strange([look(1, 1), write(2, 0, 5), end(1, [(0, 5)])]))

    def test_the_first_one_by_its_end(self):
        history = [look(1, 0), look(2, 1), look(3, 2), end(3, []), end(2, [(0, 1)]), end(1, [(0, 1)])]
        self.assertEqual(strange(history), 2)
        self.assertEqual(strange(history[:3] + history[:2:-1]), 1)

    def test_one_that_lacks_a_write_is_not_strange(self):
        self.assertIsNone(strange([write(1, 0, 5), end(1), look(2, 1), end(2, [])]))

    def test_numbers_below_0_and_of_many_figures(self):
        for number in (0, -1, -GREAT, GREAT):
            history = [write(1, 0, number), look(2, 1), end(2, [(0, number)]), end(1)]
            self.assertEqual((strange(history), order(history)), (None, [1, 2]))
            for other in (number + 1, number - 1, 7):
                history[2] = end(2, [(0, other)])
                self.assertEqual((strange(history), order(history)), (2, None))

    def test_many(self):
        several = 0
        for history in some_histories(222, 1600):
            found = Tale(history).find_strange()
            self.assertEqual(strange(history), found[0] if found else None)
            several += len(found) > 1
        self.assertGreater(several, 20)


class Orders(unittest.TestCase):
    """[24]: order."""

    def test_ordinary(self):
        self.assertEqual(order(ORDINARY), [2, 1, 5, 4])
        self.assertIsNone(order(CROSSED))

    def test_the_least_number_first(self):
        self.assertEqual(order([look(1, 3), look(2, 1), look(3, 2), end(3, []), end(2, []), end(1, [])]), [1, 2, 3])
        # Deed 1 sees 4, so 2 and 3 go ahead of both; once 4 is done 1 is the least, ahead of 5.
        history = [
            look(1, 0), look(2, 1), look(3, 2), write(4, 3, 9), write(5, 4, 8), end(1, [(3, 9)]), end(2, []),
            end(3, []), end(4), end(5),
        ]
        self.assertEqual(order(history), [2, 3, 4, 1, 5])

    def test_the_least_number_first_though_it_began_last(self):
        history = [look(2, 0), look(3, 1), end(2, []), look(1, 2), end(1, []), end(3, [])]
        self.assertEqual((ties(history), order(history)), ([(2, 1)], [2, 1, 3]))

    def test_numbers_of_two_figures_are_no_texts(self):
        history = [look(deed, deed % 9) for deed in range(1, 10)] + [look(10, 9), look(11, 10)]
        history += [end(deed, []) for deed in range(11, 0, -1)]
        self.assertEqual(order(history), list(range(1, 12)))

    def test_none_where_a_look_is_strange_though_no_tie_leads_round(self):
        history = [look(1, 0), end(1, [(1, 3)])]
        self.assertEqual((order(history), ring(history)), (None, None))

    def test_none_where_ties_lead_round_though_no_look_is_strange(self):
        for history in (CROSSED, [write(1, 0, 5), end(1), look(2, 1), end(2, [])]):
            self.assertIsNone(order(history))
            self.assertIsNone(strange(history))

    def test_a_later_look_that_sees_less(self):
        history = [write(1, 0, 5), look(2, 1), end(2, [(0, 5)]), look(3, 2), end(3, []), end(1)]
        self.assertIsNone(order(history))
        self.assertEqual(sorted(ring(history)), [1, 2, 3])

    def test_many(self):
        words = []
        for history in some_histories(241, 1600):
            tale = Tale(history)
            row = None if tale.find_strange() else tale.find_order()
            self.assertEqual(order(history), row)
            words.append("strange" if tale.find_strange() else "round" if row is None else "row")
        self.assertGreater(min(words.count(word) for word in ("strange", "round", "row")), 100)

    def test_an_order_or_a_strange_look_or_a_ring(self):
        for history in some_histories(4, 800):
            is_none = strange(history) is not None or ring(history) is not None
            self.assertEqual(order(history) is None, is_none)

    def test_a_hundred_deeds_and_more(self):
        for many in (100, 160):
            cells = Cells(9)
            for deed in range(many):
                if deed % 2:
                    cells.look(deed % 9)
                else:
                    cells.write(deed % 9, -deed)
                if deed % 9 == 8:
                    drive(cells, [deed, 3], most=10 ** 6)
            drive(cells, [], most=10 ** 6)
            history = cells.history()
            row = order(history)
            self.assertEqual((sorted(row), ring(history)), (list(range(1, many + 1)), None))
            self.assertTrue(is_order(history, row))
            self.assertFalse(is_order(history, row[::-1]))


class Rings(unittest.TestCase):
    """[24]: ring."""

    def check(self, history):
        """Whether ties lead round; what is told is a ring just then."""
        told = ties(history)
        is_round = any(one == other for one, other in closed(told))
        row = ring(history)
        if not is_round:
            self.assertIsNone(row)
            return False
        self.assertIsInstance(row, list)
        self.assertEqual(len(set(row)), len(row))
        for one, other in zip(row, row[1:] + row[:1]):
            self.assertIn((one, other), told)
        return True

    def test_none(self):
        self.assertIsNone(ring(ORDINARY))
        self.assertFalse(self.check(ORDINARY))

    def test_one_ring(self):
        row = ring(CROSSED)
        at = row.index(1)
        self.assertEqual(row[at:] + row[:at], [1, 3, 2, 4])

    def test_two_deeds(self):
        self.assertEqual(sorted(ring([write(1, 0, 5), end(1), look(2, 1), end(2, [])])), [1, 2])

    def test_also_where_a_look_is_strange(self):
        history = [look(1, 1), end(1, [(0, 5)]), write(2, 0, 5), end(2)]
        self.assertEqual((strange(history), sorted(ring(history))), (1, [1, 2]))
        history = CROSSED + [look(5, 0), end(5, [(8, 1)])]
        self.assertEqual(strange(history), 5)
        self.assertTrue(self.check(history))

    def test_deeds_ahead_of_and_behind_a_ring_are_not_in_it(self):
        shifted = [(event[0], event[1] + 1, *event[2:]) for event in CROSSED]
        history = [look(1, 4), end(1, []), *shifted, look(6, 4), end(6, [(0, 5), (1, 6)])]
        self.assertEqual(sorted(ring(history)), [2, 3, 4, 5])

    def test_many(self):
        rounds = [self.check(history) for history in some_histories(242, 1600)]
        self.assertGreater(min(rounds.count(True), rounds.count(False)), 300)


class IsOrder(unittest.TestCase):
    """[24]: is_order."""

    def check(self, history, row):
        tale = Tale(history)
        expected = sorted(row) == tale.counting and tale.keeps_time(row) and tale.is_done_so(row)
        self.assertIs(is_order(history, row), expected, (history, row))
        return expected

    def test_ordinary(self):
        rows = [list(row) for row in itertools.permutations([1, 2, 4, 5]) if is_order(ORDINARY, list(row))]
        self.assertEqual(rows, [[2, 1, 5, 4]])

    def test_other_orders_that_hold(self):
        history = [look(1, 0), look(2, 1), write(3, 2, 5), end(3), end(1, []), end(2, [])]
        rows = [list(row) for row in itertools.permutations([1, 2, 3]) if is_order(history, list(row))]
        self.assertEqual(rows, [[1, 2, 3], [2, 1, 3]])
        self.assertEqual(order(history), [1, 2, 3])

    def test_rows_with_a_deed_out_twice_or_more(self):
        for row in ([], [2, 1, 5], [2, 1, 5, 4, 4], [2, 1, 5, 5], [2, 2, 1, 5, 4], [2, 1, 5, 4, 3], [2, 1, 3, 5, 4],
                    [2, 1, 3, 5], [2, 1, 5, 4, 6], [2, 1, 5, 4, 0], [-2, 1, 5, 4], [2, 1, 5, 10 ** 21]):
            self.assertIs(is_order(ORDINARY, row), False)

    def test_rows_with_what_is_no_deed(self):
        for thing in [True, False, "1", "", 1.0, (1,), (), *ODD]:
            self.assertIs(is_order(ORDINARY, [2, thing, 5, 4]), False)
            self.assertIs(is_order(ORDINARY, [thing, 2, 1, 5, 4]), False)
            self.assertIs(is_order(ORDINARY, [thing]), False)
            self.assertIs(is_order([], [thing]), False)

    def test_a_row_that_tells_the_same_but_not_in_time(self):
        history = [look(1, 0), end(1, []), look(2, 1), end(2, [])]
        self.assertIs(is_order(history, [1, 2]), True)
        self.assertIs(is_order(history, [2, 1]), False)
        # Not only side by side.
        history = [look(1, 0), look(2, 2), end(1, []), look(3, 1), end(3, []), end(2, [])]
        self.assertIs(is_order(history, [3, 2, 1]), False)
        self.assertIs(is_order(history, [2, 1, 3]), True)

    def test_a_row_in_time_that_does_not_tell_the_same(self):
        history = [write(1, 0, 5), look(2, 1), end(1), end(2, [])]
        self.assertIs(is_order(history, [1, 2]), False)
        self.assertIs(is_order(history, [2, 1]), True)
        history[3] = end(2, [(0, 5)])
        self.assertIs(is_order(history, [1, 2]), True)
        self.assertIs(is_order(history, [2, 1]), False)

    def test_no_row_where_a_look_is_strange_or_ties_lead_round(self):
        for history in (CROSSED, [write(1, 0, 5), end(1), look(2, 1), end(2, [(0, 6)])],
                        [look(1, 1), end(1, [(0, 5)]), write(2, 0, 5), end(2)]):
            for row in itertools.permutations(Tale(history).counting):
                self.assertIs(is_order(history, list(row)), False)

    def test_every_row_of_small_histories(self):
        holding = []
        for history in small_histories(243, 800):
            rows = [list(row) for row in itertools.permutations(Tale(history).counting)]
            rows = [row for row in rows if self.check(history, row)]
            # The least one of the rows that hold has the least number first as long as several may come next.
            self.assertEqual(order(history), min(rows, default=None))
            holding.append(len(rows))
        self.assertGreater(min(holding.count(0), holding.count(1), len([many for many in holding if many > 2])), 40)

    def test_told_orders_put_otherwise(self):
        chance = random.Random(244)
        words = []
        for history in some_histories(244, 700):
            row = order(history)
            if row:
                self.assertTrue(self.check(history, row))
                one, other = chance.randrange(len(row)), chance.randrange(len(row))
                exchanged = list(row)
                exchanged[one], exchanged[other] = row[other], row[one]
                words.append(self.check(history, exchanged))
                self.assertFalse(self.check(history, row[:one] + row[one + 1:]))
                self.assertFalse(self.check(history, row[:one] + [row[other]] + row[one:]))
                self.assertFalse(self.check(history, []))
                idle = [event[1] for event in history if event[0] == "begin" and event[1] not in row]
                for deed in [*idle, 0, 1000]:
                    self.assertFalse(self.check(history, row + [deed]))
                    self.assertFalse(self.check(history, row[:one] + [deed] + row[one + 1:]))
        self.assertGreater(min(words.count(True), words.count(False)), 50)


class Told(unittest.TestCase):
    """[2] of these functions."""

    def test_what_is_handed_in_is_not_changed(self):
        for history in [ORDINARY, CROSSED, *some_histories(21, 60)]:
            before = copy.deepcopy(history)
            for asked in (ties, strange, order, ring):
                asked(history)
                self.assertEqual(history, before)
            row = list(reversed(Tale(history).counting))
            is_order(history, row)
            self.assertEqual((history, row), (before, list(reversed(Tale(history).counting))))

    def test_told_lists_are_new(self):
        for asked, history in ((ties, ORDINARY), (order, ORDINARY), (ring, CROSSED), (ties, []), (order, [])):
            one = asked(history)
            other = asked(history)
            self.assertEqual((type(one), one), (list, other))
            one.append("more")
            one.reverse()
            self.assertEqual(asked(history), other)
        self.assertTrue(all(type(pair) is tuple for pair in ties(ORDINARY)))

    def test_argument_names(self):
        self.assertEqual(ties(history=[]), [])
        self.assertIsNone(strange(history=[]))
        self.assertEqual(order(history=ORDINARY), [2, 1, 5, 4])
        self.assertEqual(len(ring(history=CROSSED)), 4)
        self.assertIs(is_order(row=[2, 1, 5, 4], history=ORDINARY), True)

    def test_kinds_of_values(self):
        self.assertIs(is_order(ORDINARY, [2, 1, 5, 4]), True)
        self.assertIs(type(strange([look(1, 0), end(1, [(0, 5)])])), int)


if __name__ == "__main__":
    unittest.main()
