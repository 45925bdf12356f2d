"""What several tests need: kinds, worths, odd things, runs by chance, and joins and histories read in another way."""

from growjoin.cells import Cells
from growjoin.house import House
from growjoin.joins import join, under

NAMES = ("names",)
MOST = ("most",)
LAST = ("last",)
PLAIN = [NAMES, MOST, LAST]


def each(kind):
    return ("each", kind)


def both(one, other):
    return ("both", one, other)


def kinds_up_to(depth):
    """All kinds of at most so many tuples within one another."""
    kinds = list(PLAIN)
    for _ in range(depth - 1):
        kinds = PLAIN + [each(kind) for kind in kinds] + [both(one, other) for one in kinds for other in kinds]
    return kinds


SOME_KINDS = kinds_up_to(2) + [
    each(each(NAMES)),
    each(each(LAST)),
    each(both(MOST, NAMES)),
    both(each(LAST), NAMES),
    both(MOST, both(LAST, each(MOST))),
    each(each(each(MOST))),
    each(both(each(NAMES), LAST)),
    both(both(both(NAMES, MOST), LAST), each(each(LAST))),
]


class Stubborn:
    """Nothing can be done with it: it cannot be compared, shown, measured, tested or looked up."""

    def refuse(self, *rest):
        raise RuntimeError("this was touched")

    __eq__ = __ne__ = __lt__ = __gt__ = __le__ = __ge__ = refuse
    __hash__ = __repr__ = __str__ = __len__ = __bool__ = __iter__ = __getitem__ = refuse


def deep_tuple():
    thing = ("names",)
    for _ in range(5000):
        thing = ("each", thing)
    return thing


# None of these is a kind, a worth, a part of one, a number or a list of anything.
ODD = [
    None, 1.5, 0.0, 2j, b"", b"a", [], [1], {}, {"a": 1}, set(), frozenset(), object(), len, int,
    Stubborn(), range(2), bytearray(b"a"), float("nan"), ..., NotImplemented,
]


def worth_of(chance, kind):
    """Some worth of the kind, the bottom now and then."""
    word = kind[0]
    if word == "names":
        return tuple(name for name in ["a", "ab", "b", "c", "zzzzzzzz"] if chance.random() < 0.4)
    if word == "most":
        return chance.choice([0, 0, 1, 2, 3, 10 ** 20])
    if word == "last":
        stamp = chance.choice([0, 1, 1, 2, 3])
        return (stamp, chance.choice([-7, -1, 0, 1, 5, 10 ** 20]) if stamp else 0)
    if word == "both":
        return (worth_of(chance, kind[1]), worth_of(chance, kind[2]))
    entries = [(name, worth_of(chance, kind[1])) for name in ["a", "b", "bb", "c"] if chance.random() < 0.5]
    return tuple((name, worth) for name, worth in entries if flat(kind[1], worth))


def flat(kind, worth):
    """The worth as a dict from places to what stands there, without any bottom: a way apart from the program's."""
    word = kind[0]
    if word == "names":
        return {(name,): 1 for name in worth}
    if word == "both":
        firsts = {(0, *place): there for place, there in flat(kind[1], worth[0]).items()}
        seconds = {(1, *place): there for place, there in flat(kind[2], worth[1]).items()}
        return {**firsts, **seconds}
    if word == "each":
        return {(name, *place): there for name, inner in worth for place, there in flat(kind[1], inner).items()}
    return {} if worth in (0, (0, 0)) else {(): worth}


def unflat(kind, places):
    """The worth that is so flat."""
    word = kind[0]
    if word == "names":
        return tuple(sorted(place[0] for place in places))
    if word == "both":
        return (unflat(kind[1], places_behind(0, places)), unflat(kind[2], places_behind(1, places)))
    if word == "each":
        names = sorted({place[0] for place in places})
        return tuple((name, unflat(kind[1], places_behind(name, places))) for name in names)
    return places.get((), 0 if word == "most" else (0, 0))


def places_behind(first, places):
    return {place[1:]: there for place, there in places.items() if place[0] == first}


def joined(kind, worths):
    """The join of one worth at least."""
    whole = worths[0]
    for worth in worths[1:]:
        whole = join(kind, whole, worth)
    return whole


def snapshot(house):
    """All that can be asked of a house."""
    hands = range(house.hands())
    return (
        house.kind(), house.hands(), house.letters(), house.waiting(), house.history(),
        [house.held(hand) for hand in hands], [house.purse(hand) for hand in hands],
        [house.asks(hand) for hand in hands], [house.told(hand) for hand in hands],
        [house.has_fallen(hand) for hand in hands],
    )


def snapshot_of_cells(cells, hands):
    """All that can be asked of cells of so many hands."""
    history = cells.history()
    deeds = [event[1] for event in history if event[0] == "begin"]
    return (
        cells.letters(), cells.waiting(), history, [cells.result(deed) for deed in deeds],
        [cells.has_fallen(hand) for hand in range(hands)],
    )


def run_house(chance, kind, hands, most_falls, steps=60):
    """Wish, bring letters (new, late or again), send anew and fall by chance; the house behind it."""
    house = House(kind, hands)
    falls = 0
    for _ in range(chance.randrange(5, steps)):
        dice = chance.random()
        standing = [hand for hand in range(hands) if not house.has_fallen(hand)]
        if dice < 0.25 and standing:
            house.wish(chance.choice(standing), worth_of(chance, kind))
        elif dice < 0.28 and falls < most_falls:
            house.fall(chance.choice(standing))
            falls += 1
        elif dice < 0.32 and standing:
            house.again(chance.choice(standing))
        elif dice < 0.5 and house.letters():
            house.deliver(chance.randrange(len(house.letters())) + 1)
        elif house.waiting():
            house.deliver(chance.choice(house.waiting()))
    return house


def free_hands(cells, hands):
    """The hands that stand and have no deed that is not over."""
    history = cells.history()
    over = {event[1] for event in history if event[0] == "end"}
    busy = {event[2] for event in history if event[0] == "begin" and event[1] not in over}
    return [hand for hand in range(hands) if hand not in busy and not cells.has_fallen(hand)]


def run_cells(chance, hands, most_falls, steps=80):
    """Write, look, bring letters (new, late or again), send anew and fall by chance; the cells behind it."""
    cells = Cells(hands)
    falls = 0
    for step in range(chance.randrange(5, steps)):
        dice = chance.random()
        free = free_hands(cells, hands)
        standing = [hand for hand in range(hands) if not cells.has_fallen(hand)]
        if dice < 0.2 and free:
            # No number twice, so that a look tells which write it saw.
            cells.write(chance.choice(free), chance.choice([-1, 1]) * (step + 1))
        elif dice < 0.4 and free:
            cells.look(chance.choice(free))
        elif dice < 0.43 and falls < most_falls:
            cells.fall(chance.choice(standing))
            falls += 1
        elif dice < 0.47 and standing:
            cells.again(chance.choice(standing))
        elif dice < 0.6 and cells.letters():
            cells.deliver(chance.randrange(len(cells.letters())) + 1)
        elif cells.waiting():
            cells.deliver(chance.choice(cells.waiting()))
    return cells


def comparable(kind, one, other):
    return under(kind, one, other) or under(kind, other, one)


class Tale:
    """A history of cells, read word by word: deeds with what each did, saw, and when it began and ended."""

    def __init__(self, history):
        self.begun = {event[1]: at for at, event in enumerate(history) if event[0] == "begin"}
        self.ended = {event[1]: at for at, event in enumerate(history) if event[0] == "end"}
        self.told = {event[1]: event[2] for event in history if event[0] == "end"}
        self.doer = {event[1]: event[2] for event in history if event[0] == "begin"}
        self.number = {event[1]: event[4] for event in history if event[0] == "begin" and event[3] == "write"}
        self.writes = {}
        for deed in self.number:
            self.writes.setdefault(self.doer[deed], []).append(deed)
        self.looks = [deed for deed in self.ended if deed not in self.number]
        self.sees = {look: self.seen_by(look) for look in self.looks}
        seen = set().union(*self.sees.values())
        self.counting = sorted(set(self.ended) | {deed for deed in self.number if deed in seen})

    def seen_by(self, look):
        """All writes that the look sees; a number that none of the hand's writes has shows none of them."""
        seen = set()
        for hand, number in self.told[look]:
            numbers = [self.number[deed] for deed in self.writes.get(hand, [])]
            if number in numbers:
                seen |= set(self.writes[hand][:numbers.index(number) + 1])
        return seen

    def ended_ahead(self, one, other):
        return one in self.ended and self.ended[one] < self.begun[other]

    def must_lead(self, one, other):
        """Whether one must stand ahead of other in any order."""
        if one == other:
            return False
        if self.ended_ahead(one, other):
            return True
        if one in self.number and other in self.number:
            return self.doer[one] == self.doer[other] and self.begun[one] < self.begun[other]
        if one in self.number and other in self.sees:
            return one in self.sees[other]
        return one in self.sees and other in self.number and other not in self.sees[one]

    def find_ties(self):
        return [(one, other) for one in self.counting for other in self.counting if self.must_lead(one, other)]

    def find_order(self):
        """The deeds that count in an order in which all that must lead does, the least first, or None."""
        left, row = list(self.counting), []
        while left:
            free = [deed for deed in left if not any(self.must_lead(other, deed) for other in left)]
            if not free:
                return None
            row.append(free[0])
            left.remove(free[0])
        return row

    def find_strange(self):
        """All looks that tell what was not written by then, by their ends."""
        return [look for look in self.looks if any(self.is_unwritten(look, *pair) for pair in self.told[look])]

    def is_unwritten(self, look, hand, number):
        ahead = [deed for deed in self.writes.get(hand, []) if self.begun[deed] < self.ended[look]]
        return number not in [self.number[deed] for deed in ahead]

    def keeps_time(self, row):
        pairs = [(one, other) for at, one in enumerate(row) for other in row[at + 1:]]
        return not any(self.ended_ahead(other, one) for one, other in pairs)

    def is_done_so(self, row):
        """Whether new cells, at which the deeds of the row are done one by one, tell what was told."""
        cells = Cells(1 + max([0, *self.doer.values()]))
        for deed in row:
            hand = self.doer[deed]
            done = cells.write(hand, self.number[deed]) if deed in self.number else cells.look(hand)
            while cells.waiting():
                cells.deliver(cells.waiting()[0])
            if cells.result(done) != self.told.get(deed, True):
                return False
        return True


def made_history(chance, hands, steps):
    """A history of cells made up: each deed is done at one moment behind its beginning, and then ends, or does not."""
    history, now, doing, fallen = [], {}, {}, set()
    deeds = 0
    for step in range(steps):
        hand = chance.randrange(hands)
        if hand in fallen:
            continue
        if hand not in doing:
            deeds += 1
            number = chance.choice([None, step - 9])
            history.append(("begin", deeds, hand, "look" if number is None else "write", number))
            doing[hand] = (deeds, number, None)
            continue
        deed, number, result = doing[hand]
        if result is not None:
            history.append(("end", deed, result))
            del doing[hand]
        elif number is None:
            doing[hand] = (deed, number, sorted(now.items()))
        else:
            now[hand] = number
            doing[hand] = (deed, number, True)
        if chance.random() < 0.02:
            history.append(("fall", hand))
            fallen.add(hand)
    return history


def put_otherwise(chance, history, many):
    """The history with so many things put otherwise, by chance: what a look told, or the place of an end."""
    for _ in range(many):
        history = chance.choice([tell_otherwise, tell_more_or_less, end_elsewhere])(chance, history)
    return history


def end_elsewhere(chance, history):
    """An end moved, but not ahead of its beginning nor behind the beginning of its hand's next deed."""
    places = [at for at, event in enumerate(history) if event[0] == "end"]
    if not places:
        return history
    at = chance.choice(places)
    deed = history[at][1]
    rest = history[:at] + history[at + 1:]
    began = [place for place, event in enumerate(rest) if event[:2] == ("begin", deed)][0]
    hand = rest[began][2]
    later = [place for place, event in enumerate(rest) if place > began and event[0] == "begin" and event[2] == hand]
    new = chance.randint(began + 1, min([len(rest), *later]))
    return rest[:new] + [history[at]] + rest[new:]


def tell_otherwise(chance, history):
    """Another number told of a hand, by a look that tells of one."""
    return change_told(chance, history, 1, lambda told, numbers: change_number(chance, told, numbers))


def tell_more_or_less(chance, history):
    """A hand told of no more, or one told of that was not; it may be one that wrote nothing."""
    return change_told(chance, history, 0, lambda told, numbers: drop_or_add(chance, told, numbers))


def change_told(chance, history, least, change):
    places = [at for at, event in enumerate(history) if event[0] == "end" and event[2] is not True]
    places = [at for at in places if len(history[at][2]) >= least]
    if not places:
        return history
    at = chance.choice(places)
    numbers = {}
    for event in history:
        if event[0] == "begin" and event[3] == "write":
            numbers.setdefault(event[2], []).append(event[4])
    told = sorted(change(dict(history[at][2]), numbers).items())
    return history[:at] + [("end", history[at][1], told)] + history[at + 1:]


def some_number(chance, hand, numbers):
    """Mostly one that the hand wrote, else one that another hand wrote, or nobody."""
    if hand in numbers and chance.random() < 0.8:
        return chance.choice(numbers[hand])
    others = [number for row in numbers.values() for number in row]
    return chance.choice([*others, 0, 10 ** 21 - 1, 1 - 10 ** 21])


def change_number(chance, told, numbers):
    hand = chance.choice(sorted(told))
    return {**told, hand: some_number(chance, hand, numbers)}


def drop_or_add(chance, told, numbers):
    hand = chance.choice(sorted([*told, *numbers, chance.randrange(9)]))
    if hand in told:
        return {other: number for other, number in told.items() if other != hand}
    return {**told, hand: some_number(chance, hand, numbers)}


def renumbered(history, change):
    """The history with each number put otherwise by a function that makes no two alike."""
    rows = []
    for event in history:
        if event[0] == "begin" and event[3] == "write":
            event = (*event[:4], change(event[4]))
        elif event[0] == "end" and event[2] is not True:
            event = (*event[:2], [(hand, change(number)) for hand, number in event[2]])
        rows.append(event)
    return rows
