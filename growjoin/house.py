"""A house: hands that wish for worths and agree by letters on what they tell."""

from growjoin.errors import Fallen, NoHand, NoHands, NoKind, NoLetter, NoWorth
from growjoin.joins import bottom, is_kind, is_whole, is_worth, join


class Hand:
    """What one hand of a house has. Only its house changes it."""

    def __init__(self, least):
        self.holding = least
        self.saved = least
        self.tellings = []
        self.asking = 0
        # None while it asks nothing; no worth is None.
        self.asked = None
        # The bodies of the answers to its present asking, by the hands that gave them.
        self.answers = {}
        self.down = False

    def twin(self):
        other = Hand(self.holding)
        other.saved = self.saved
        other.tellings = list(self.tellings)
        other.asking = self.asking
        other.asked = self.asked
        other.answers = dict(self.answers)
        other.down = self.down
        return other


class House:
    """Hands numbered from 0 on, and the letters between them."""

    def __init__(self, kind, hands):
        if not is_kind(kind):
            raise NoKind()
        if not is_whole(hands) or hands < 1:
            raise NoHands()
        self.form = kind
        self.row = [Hand(bottom(kind)) for place in range(hands)]
        self.post = []
        # The numbers of the letters that were never brought, rising.
        self.unbrought = {}
        self.wishes = 0
        self.events = []

    def kind(self):
        return self.form

    def hands(self):
        return len(self.row)

    def held(self, hand):
        return self.find_hand(hand).holding

    def purse(self, hand):
        return self.find_hand(hand).saved

    def asks(self, hand):
        found = self.find_hand(hand)
        return None if found.asked is None else (found.asking, found.asked)

    def told(self, hand):
        return list(self.find_hand(hand).tellings)

    def has_fallen(self, hand):
        return self.find_hand(hand).down

    def letters(self):
        return list(self.post)

    def waiting(self):
        return list(self.unbrought)

    def history(self):
        return list(self.events)

    def twin(self):
        """A house that is as this one is now; from now on each goes its own way."""
        other = House(self.form, len(self.row))
        other.row = [one.twin() for one in self.row]
        other.post = list(self.post)
        other.unbrought = dict(self.unbrought)
        other.wishes = self.wishes
        other.events = list(self.events)
        return other

    def wish(self, hand, worth):
        """Join the worth to the hand's purse; tells the number of the wish."""
        found = self.find_hand(hand)
        if not is_worth(self.form, worth):
            raise NoWorth()
        if found.down:
            raise Fallen(hand)
        self.wishes += 1
        found.saved = join(self.form, found.saved, worth)
        self.events.append(("wish", hand, self.wishes, worth))
        if found.asked is None:
            self.begin(hand)
        return self.wishes

    def deliver(self, number):
        """Bring a letter to its receiver; tells whether it came or was lost."""
        if not is_whole(number) or not 1 <= number <= len(self.post):
            raise NoLetter(number)
        self.unbrought.pop(number, None)
        sender, receiver, body = self.post[number - 1][1:]
        if self.row[receiver].down:
            return "lost"
        if body[0] == "ask":
            self.send(receiver, sender, self.answer(receiver, body[1], body[2]))
        else:
            self.hear(receiver, sender, body)
        return "came"

    def fall(self, hand):
        """The hand does and answers nothing any more."""
        found = self.find_standing(hand)
        found.down = True
        self.events.append(("fall", hand))

    def again(self, hand):
        """Send the present asking anew to those that have not answered it; tells to how many."""
        if self.find_standing(hand).asked is None:
            return 0
        return self.send_asking(hand)

    def find_hand(self, hand):
        if not is_whole(hand) or not 0 <= hand < len(self.row):
            raise NoHand(hand)
        return self.row[hand]

    def find_standing(self, hand):
        found = self.find_hand(hand)
        if found.down:
            raise Fallen(hand)
        return found

    def begin(self, hand):
        one = self.row[hand]
        least = bottom(self.form)
        last = one.tellings[-1] if one.tellings else least
        worth = join(self.form, last, one.saved)
        one.saved = least
        self.ask(hand, worth)

    def ask(self, hand, worth):
        one = self.row[hand]
        one.asking += 1
        one.asked = worth
        self.events.append(("ask", hand, one.asking, worth))
        one.answers = {hand: self.answer(hand, one.asking, worth)}
        self.send_asking(hand)
        # Only now: what follows from its own answer may send letters of a later asking.
        self.settle(hand)

    def send_asking(self, hand):
        one = self.row[hand]
        receivers = [other for other in range(len(self.row)) if other not in one.answers]
        for receiver in receivers:
            self.send(hand, receiver, ("ask", one.asking, one.asked))
        return len(receivers)

    def send(self, sender, receiver, body):
        number = len(self.post) + 1
        self.post.append((number, sender, receiver, body))
        self.unbrought[number] = True

    def answer(self, hand, asking, worth):
        """Let the hand hold the asked worth too; tells the body of its answer."""
        one = self.row[hand]
        one.holding = join(self.form, one.holding, worth)
        # The join is the asked worth just where that held all that the hand held.
        if one.holding == worth:
            return ("yes", asking)
        return ("more", asking, one.holding)

    def hear(self, hand, sender, body):
        one = self.row[hand]
        if one.asked is not None and body[1] == one.asking and sender not in one.answers:
            one.answers[sender] = body
            self.settle(hand)

    def settle(self, hand):
        """Do what follows from the answers that the hand has by now."""
        one = self.row[hand]
        mores = [body[2] for body in one.answers.values() if body[0] == "more"]
        if self.are_enough(len(one.answers) - len(mores)):
            self.tell(hand)
        elif mores and self.are_enough(len(one.answers)):
            worth = one.asked
            for more in mores:
                worth = join(self.form, worth, more)
            self.ask(hand, worth)

    def are_enough(self, many):
        return 2 * many > len(self.row)

    def tell(self, hand):
        one = self.row[hand]
        one.tellings.append(one.asked)
        self.events.append(("tell", hand, one.asked))
        one.asked = None
        if one.saved != bottom(self.form):
            self.begin(hand)
