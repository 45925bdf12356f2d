"""Ends: all that two hands can have told, whenever they wish and letters come, and a way that leads to each."""

from growjoin.house import House


class Numbering:
    """A number for each worth: worths are too deep to be looked up as parts of something longer."""

    def __init__(self):
        self.known = {}

    def number_of(self, worth):
        return self.known.setdefault(worth, len(self.known))

    def numbers_of(self, worths):
        return tuple([self.number_of(worth) for worth in worths])


class Stand:
    """A house of two hands, and the moves that led to it."""

    def __init__(self, house, moves):
        self.house = house
        self.moves = moves

    def many_wished(self, hand):
        return self.moves.count(("wish", hand))

    def next_moves(self, wishes):
        """All moves that can be next; none once all is wished and no letter waits."""
        wishing = [("wish", hand) for hand in (0, 1) if self.many_wished(hand) < len(wishes[hand])]
        return wishing + [("bring", number) for number in self.house.waiting()]

    def behind(self, wishes, move):
        """How it stands behind the move."""
        house = self.house.twin()
        word, which = move
        if word == "wish":
            house.wish(which, wishes[which][self.many_wished(which)])
        else:
            house.deliver(which)
        return Stand(house, self.moves + [move])

    def end(self):
        return (tuple(self.house.told(0)), tuple(self.house.told(1)))

    def key(self, numbering):
        """All on which hangs what can come from here on: the same key, the same ends."""
        hands = [key_of_hand(hand, numbering) for hand in self.house.row]
        letters = self.house.letters()
        waiting = [letters[number - 1] for number in self.house.waiting()]
        bodies = [(sender, key_of_body(body, numbering)) for number, sender, receiver, body in waiting]
        return (self.many_wished(0), self.many_wished(1), tuple(hands), tuple(bodies))


def key_of_hand(hand, numbering):
    worths = numbering.numbers_of([hand.holding, hand.saved, hand.asked])
    answers = [(sender, key_of_body(body, numbering)) for sender, body in hand.answers.items()]
    return (worths, numbering.numbers_of(hand.tellings), hand.asking, tuple(answers))


def key_of_body(body, numbering):
    return body[:2] + numbering.numbers_of(body[2:])


def all_stands(kind, wishes):
    """How it can stand, by the number of moves; of those from which the same can come only one."""
    numbering = Numbering()
    first = Stand(House(kind, 2), [])
    found = {first.key(numbering): first}
    now = [first]
    while now:
        later = []
        for stand in now:
            for move in stand.next_moves(wishes):
                new = stand.behind(wishes, move)
                key = new.key(numbering)
                if key not in found:
                    found[key] = new
                    later.append(new)
        now = later
    return list(found.values())


def last_stands(kind, ones, others):
    """How it can stand once all is wished and no letter waits; ends may come up more than once."""
    wishes = (ones, others)
    return [stand for stand in all_stands(kind, wishes) if not stand.next_moves(wishes)]


def ends(kind, ones, others):
    """All that both hands can have told, sorted, each once."""
    found = sorted([stand.end() for stand in last_stands(kind, ones, others)])
    return [end for place, end in enumerate(found) if place == 0 or end != found[place - 1]]


def way(kind, ones, others, end):
    """Moves that lead to the end, or None where none do."""
    for stand in last_stands(kind, ones, others):
        if stand.end() == end:
            return stand.moves
    return None
