"""[17] and [18], [2] and [3]: letters brought one after another, of a house and of cells."""

import copy
import random
import unittest

from growjoin.cells import Cells
from growjoin.errors import NoLetter, TooLong
from growjoin.house import House
from growjoin.joins import bottom, under
from growjoin.roads import drive, play
from helper import MOST, NAMES, ODD, SOME_KINDS, free_hands, run_cells, run_house, snapshot, snapshot_of_cells

A, B, C = ("a",), ("b",), ("c",)


def busy_house():
    house = House(NAMES, 3)
    house.wish(0, A)
    house.wish(1, B)
    house.wish(2, C)
    return house


def busy_cells():
    cells = Cells(3)
    cells.write(0, 5)
    cells.look(1)
    cells.write(2, -5)
    return cells


def shot(thing):
    """All that can be asked of a house or of cells of three hands."""
    return snapshot(thing) if isinstance(thing, House) else snapshot_of_cells(thing, 3)


def drive_by_hand(house, wishes):
    """What drive does, told otherwise: each step by itself; tells the numbers that were brought."""
    numbers = []
    taken = list(wishes)
    while house.waiting():
        if not taken:
            taken = list(wishes) or [0]
        waiting = house.waiting()
        wish = taken.pop(0)
        place = wish - wish // len(waiting) * len(waiting)
        numbers.append(waiting[place])
        house.deliver(waiting[place])
    return numbers


MAKERS = [busy_house, busy_cells]


class Play(unittest.TestCase):
    def test_no_numbers(self):
        for make in MAKERS:
            thing = make()
            before = shot(thing)
            self.assertEqual(play(thing, []), [])
            self.assertEqual(shot(thing), before)

    def test_one_by_one_in_their_order(self):
        for make in MAKERS:
            thing, other = make(), make()
            self.assertEqual(play(thing, [6, 1, 2, 8, 7]), ["came"] * 5)
            for number in [6, 1, 2, 8, 7]:
                other.deliver(number)
            self.assertEqual(shot(thing), shot(other))
            self.assertNotEqual(shot(thing), shot(make()))

    def test_a_letter_of_the_house(self):
        house = House(MOST, 2)
        house.wish(0, 4)
        # Letter 2 is sent only when letter 1 comes.
        self.assertEqual(play(house, [1, 2]), ["came", "came"])
        self.assertEqual((house.told(0), house.waiting()), ([4], []))

    def test_a_letter_of_the_cells(self):
        cells = Cells(2)
        cells.write(1, 9)
        self.assertEqual(play(cells, [1, 2]), ["came", "came"])
        self.assertEqual((cells.result(1), cells.waiting()), (True, []))

    def test_numbers_twice(self):
        for make in MAKERS:
            thing = make()
            many = len(thing.letters())
            self.assertEqual(play(thing, [1, 1, 1]), ["came"] * 3)
            self.assertEqual(len(thing.letters()), many + 3)
            self.assertEqual(thing.waiting(), [2, 3, 4, 5, 6, 7, 8, 9])

    def test_words_of_lost_ones(self):
        for make in MAKERS:
            thing = make()
            thing.fall(1)
            self.assertEqual(play(thing, [1, 2, 1, 6, 5]), ["lost", "came", "lost", "lost", "came"])

    def test_no_letter_in_the_midst(self):
        for make in MAKERS:
            for thing in [0, -1, 99, True, "1", None, *ODD]:
                one, other = make(), make()
                with self.assertRaises(NoLetter) as caught:
                    play(one, [1, 5, thing, 2, 3])
                self.assertIs(type(caught.exception), NoLetter)
                self.assertIs(caught.exception.number, thing)
                other.deliver(1)
                other.deliver(5)
                self.assertEqual(shot(one), shot(other))

    def test_no_letter_at_first_changes_nothing(self):
        for make in MAKERS:
            thing = make()
            before = shot(thing)
            with self.assertRaises(NoLetter):
                play(thing, [7, 1, 2])
            self.assertEqual(shot(thing), before)

    def test_numbers_are_not_changed_and_words_are_the_askers(self):
        for make in MAKERS:
            thing = make()
            numbers = [1, 2, 1]
            words = play(thing, numbers)
            self.assertEqual(numbers, [1, 2, 1])
            numbers.append(7)
            after = shot(thing)
            words.append("more")
            self.assertEqual(shot(thing), after)
            kept = play(thing, [3])
            play(thing, [4])
            self.assertEqual(kept, ["came"])
            empty = [play(thing, []), play(thing, [])]
            empty[0].append("more")
            self.assertEqual(empty[1], [])

    def test_argument_names(self):
        self.assertEqual(play(numbers=[1], house=busy_house()), ["came"])
        self.assertEqual(play(numbers=[1], house=busy_cells()), ["came"])


class Drive(unittest.TestCase):
    WISHES = [[], [0], [1], [0, 1], [5, 0, 3], [10 ** 20, 7, 10 ** 20 + 1], [10 ** 21 - 1], [2] * 400, list(range(400))]

    def test_it_tells_none_and_nothing_waits(self):
        for make in MAKERS:
            for wishes in self.WISHES:
                thing = make()
                self.assertIsNone(drive(thing, wishes))
                self.assertEqual(thing.waiting(), [])

    def test_which_letter_is_brought(self):
        for make in MAKERS:
            for wishes in self.WISHES:
                one, other = make(), make()
                numbers = drive_by_hand(other, wishes)
                drive(one, wishes)
                self.assertEqual(shot(one), shot(other), wishes)
                played = make()
                play(played, numbers)
                self.assertEqual(shot(played), shot(one))

    def test_letter_by_letter(self):
        house = House(NAMES, 3)
        house.wish(0, A)
        house.wish(1, B)
        # Waiting are [1, 2, 3, 4], at place 2 letter 3; then [1, 2, 4, 5], at place 5 % 4 letter 2; then [1, 4, 5, 6],
        # at place 2 once more letter 5, by which hand 1 asks anew.
        with self.assertRaises(TooLong):
            drive(house, [2, 5], most=3)
        self.assertEqual(house.waiting(), [1, 4, 6, 7, 8])
        self.assertEqual(house.letters()[4:], [
            (5, 0, 1, ("more", 1, ("a", "b"))), (6, 2, 0, ("yes", 1)), (7, 1, 0, ("ask", 2, ("a", "b"))),
            (8, 1, 2, ("ask", 2, ("a", "b"))),
        ])

    def test_no_wishes_is_the_oldest_first(self):
        for make in MAKERS:
            one, other = make(), make()
            drive(one, [])
            while other.waiting():
                other.deliver(other.waiting()[0])
            self.assertEqual(shot(one), shot(other))

    def test_wishes_are_taken_over_and_over(self):
        for make in MAKERS:
            one, other, third = make(), make(), make()
            drive(one, [3, 1])
            drive(other, [3, 1] * 200)
            self.assertEqual(shot(one), shot(other))
            drive(third, [3])
            self.assertNotEqual(shot(one), shot(third))

    def test_nothing_waits(self):
        for thing in [House(NAMES, 3), Cells(3), House(NAMES, 1), Cells(1)]:
            for wishes in [[], [1, 2]]:
                self.assertIsNone(drive(thing, wishes))
                self.assertIsNone(drive(thing, wishes, most=0))
                self.assertEqual(thing.letters(), [])

    def test_letters_brought_ahead_are_not_brought_again(self):
        house = House(MOST, 2)
        house.wish(0, 4)
        play(house, [1, 1])
        self.assertEqual(house.waiting(), [2, 3])
        drive(house, [1])
        self.assertEqual((house.told(0), len(house.letters())), ([4], 3))

    def test_argument_names(self):
        self.assertIsNone(drive(most=500, wishes=[1], house=busy_house()))
        self.assertIsNone(drive(wishes=[1], house=busy_cells()))
        with self.assertRaises(TypeError):
            drive(busy_house(), [1], 500)

    def test_wishes_are_not_changed(self):
        for make in MAKERS:
            wishes = [4, 10 ** 20, 0]
            drive(make(), wishes)
            self.assertEqual(wishes, [4, 10 ** 20, 0])


class TooLongRoads(unittest.TestCase):
    def many(self, make, wishes):
        return len(drive_by_hand(make(), wishes))

    def test_just_enough_and_more(self):
        for make in MAKERS:
            for wishes in Drive.WISHES:
                many = self.many(make, wishes)
                for most in [many, many + 1, 10 ** 20]:
                    thing = make()
                    self.assertIsNone(drive(thing, wishes, most=most))
                    self.assertEqual(thing.waiting(), [])

    def test_too_small_and_what_was_done_stays(self):
        for make in MAKERS:
            for wishes in [[], [2, 0, 5]]:
                numbers = drive_by_hand(make(), wishes)
                for most in range(len(numbers)):
                    one, other = make(), make()
                    with self.assertRaises(TooLong) as caught:
                        drive(one, wishes, most=most)
                    self.assertIs(type(caught.exception), TooLong)
                    self.assertEqual(caught.exception.most, most)
                    play(other, numbers[:most])
                    self.assertEqual(shot(one), shot(other))

    def test_it_can_be_driven_on(self):
        for make in MAKERS:
            one, other = make(), make()
            many = self.many(make, [])
            with self.assertRaises(TooLong):
                drive(one, [], most=many - 1)
            self.assertIsNone(drive(one, [], most=1))
            drive(other, [])
            self.assertEqual(shot(one), shot(other))

    def test_zero_where_some_wait_changes_nothing(self):
        for make in MAKERS:
            thing = make()
            before = shot(thing)
            with self.assertRaises(TooLong) as caught:
                drive(thing, [1, 2], most=0)
            self.assertEqual(caught.exception.most, 0)
            self.assertEqual(shot(thing), before)

    def test_two_thousand_are_brought_where_most_is_left_out(self):
        for rounds in (2000, 2001):
            house = House(MOST, 3)
            # Letters that nobody asks for any more: an old ask, brought again and again, is answered each time.
            house.wish(0, 1)
            play(house, [1, 3, 2, 4])
            play(house, [1] * rounds)
            self.assertEqual(len(house.waiting()), rounds)
            if rounds == 2000:
                self.assertIsNone(drive(house, []))
                self.assertEqual(house.waiting(), [])
            else:
                with self.assertRaises(TooLong) as caught:
                    drive(house, [])
                self.assertEqual(caught.exception.most, 2000)
                self.assertEqual(house.waiting(), [2005])


class BehindTheRoad(unittest.TestCase):
    """[18], with fewer than half fallen."""

    def wishes_for(self, chance):
        return [chance.choice([0, 1, 2, 3, chance.randrange(1000), 10 ** 20]) for _ in range(chance.randrange(9))]

    def check_house(self, house):
        for hand in range(house.hands()):
            if house.has_fallen(hand):
                continue
            self.assertIsNone(house.asks(hand))
            last = house.told(hand)[-1] if house.told(hand) else bottom(house.kind())
            for event in house.history():
                if event[:2] == ("wish", hand):
                    self.assertTrue(house.told(hand))
                    self.assertTrue(under(house.kind(), event[3], last))

    def test_of_houses(self):
        chance = random.Random(181)
        falls = 0
        for _ in range(500):
            hands = chance.choice([1, 2, 3, 3, 4, 5, 7, 9])
            house = run_house(chance, chance.choice(SOME_KINDS), hands, (hands - 1) // 2)
            drive(house, self.wishes_for(chance))
            self.assertEqual(house.waiting(), [])
            self.check_house(house)
            falls += sum(house.has_fallen(hand) for hand in range(hands))
        self.assertGreater(falls, 100)

    def test_of_cells(self):
        chance = random.Random(182)
        falls = 0
        for _ in range(300):
            hands = chance.choice([1, 2, 3, 3, 4, 5, 7, 9])
            cells = run_cells(chance, hands, (hands - 1) // 2)
            drive(cells, self.wishes_for(chance))
            self.assertEqual(cells.waiting(), [])
            standing = [hand for hand in range(hands) if not cells.has_fallen(hand)]
            self.assertEqual(free_hands(cells, hands), standing)
            falls += hands - len(standing)
        self.assertGreater(falls, 100)

    def test_where_half_have_fallen_some_may_ask_on(self):
        house = House(MOST, 2)
        house.fall(1)
        house.wish(0, 1)
        self.assertIsNone(drive(house, []))
        self.assertEqual(house.asks(0), (1, 1))

    def test_a_copy_is_driven_alike(self):
        for make in MAKERS:
            one = make()
            other = copy.deepcopy(one)
            drive(one, [4, 2])
            drive(other, [4, 2])
            self.assertEqual(shot(one), shot(other))


if __name__ == "__main__":
    unittest.main()
