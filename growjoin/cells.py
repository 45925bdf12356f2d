"""Cells: a number for each hand, written and looked at as if there were one reader and writer at a time."""

from growjoin.errors import Busy, Fallen, NoDeed
from growjoin.house import House
from growjoin.joins import is_whole

LETTERS = "abcdefghijklmnopqrstuvwxyz"


def name_of(hand):
    # Behind z come za, zb and so on, so that any more hands have names too, which rise with the hands.
    return "z" * (hand // len(LETTERS)) + LETTERS[hand % len(LETTERS)]


class Cells:
    """A house of tables, in which each hand writes its own cell and looks at all of them."""

    def __init__(self, hands):
        self.house = House(("each", ("last",)), hands)
        # By hands: how many writes each began, and (deed, word) of the deed that is not over.
        self.stamps = {}
        self.busy = {}
        # By deeds: None, True of a write, a tuple of a look.
        self.results = []
        self.events = []

    def letters(self):
        return self.house.letters()

    def waiting(self):
        return self.house.waiting()

    def has_fallen(self, hand):
        return self.house.has_fallen(hand)

    def history(self):
        return [("end", event[1], self.result(event[1])) if event[0] == "end" else event for event in self.events]

    def result(self, deed):
        """None while the deed is not over, True of a write, the list of the written cells of a look."""
        if not is_whole(deed) or not 1 <= deed <= len(self.results):
            raise NoDeed(deed)
        found = self.results[deed - 1]
        return list(found) if isinstance(found, tuple) else found

    def write(self, hand, number):
        """Begin to put a number into the hand's own cell; tells the deed's number."""
        self.check_free(hand)
        stamp = self.stamps.get(hand, 0) + 1
        self.house.wish(hand, ((name_of(hand), (stamp, number)),))
        self.stamps[hand] = stamp
        return self.begin_deed(hand, "write", number)

    def look(self, hand):
        """Begin to look at all cells; tells the deed's number."""
        self.check_free(hand)
        self.house.wish(hand, ())
        return self.begin_deed(hand, "look", None)

    def deliver(self, number):
        """Bring a letter to its receiver; tells whether it came or was lost."""
        word = self.house.deliver(number)
        self.end_deeds()
        return word

    def fall(self, hand):
        """The hand does and answers nothing any more; a deed that it began is never over."""
        self.house.fall(hand)
        self.events.append(("fall", hand))

    def again(self, hand):
        """Send the present asking anew to those that have not answered it; tells to how many."""
        return self.house.again(hand)

    def check_free(self, hand):
        if self.house.has_fallen(hand):
            raise Fallen(hand)
        if hand in self.busy:
            raise Busy(hand)

    def begin_deed(self, hand, word, number):
        self.results.append(None)
        deed = len(self.results)
        self.busy[hand] = (deed, word)
        self.events.append(("begin", deed, hand, word, number))
        # A hand that is enough by itself has told already.
        self.end_deeds()
        return deed

    def end_deeds(self):
        # A hand asks for one deed only, so it told when it asks no more.
        for hand in list(self.busy):
            if self.house.asks(hand) is None:
                self.end_deed(hand)

    def end_deed(self, hand):
        deed, word = self.busy.pop(hand)
        self.results[deed - 1] = True if word == "write" else self.seen_by(hand)
        self.events.append(("end", deed))

    def seen_by(self, hand):
        table = dict(self.house.told(hand)[-1])
        names = [(other, name_of(other)) for other in range(self.house.hands())]
        return tuple([(other, table[name][1]) for other, name in names if name in table])
