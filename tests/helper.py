"""What several tests need: kinds, worths, odd things, and joins told in another way."""

from growjoin.cells import Cells
from growjoin.house import House
from growjoin.joins import join, under

NAMES = ("names",)
MOST = ("most",)
LAST = ("last",)
PLAIN = [NAMES, MOST, LAST]


def each(kind):
    return ("each", kind)


def both(one, other):
    return ("both", one, other)


def kinds_up_to(depth):
    """All kinds of at most so many tuples within one another."""
    kinds = list(PLAIN)
    for _ in range(depth - 1):
        kinds = PLAIN + [each(kind) for kind in kinds] + [both(one, other) for one in kinds for other in kinds]
    return kinds


SOME_KINDS = kinds_up_to(2) + [
    each(each(NAMES)),
    each(each(LAST)),
    each(both(MOST, NAMES)),
    both(each(LAST), NAMES),
    both(MOST, both(LAST, each(MOST))),
    each(each(each(MOST))),
    each(both(each(NAMES), LAST)),
    both(both(both(NAMES, MOST), LAST), each(each(LAST))),
]


class Stubborn:
    """Nothing can be done with it: it cannot be compared, shown, measured, tested or looked up."""

    def refuse(self, *rest):
        raise RuntimeError("this was touched")

    __eq__ = __ne__ = __lt__ = __gt__ = __le__ = __ge__ = refuse
    __hash__ = __repr__ = __str__ = __len__ = __bool__ = __iter__ = __getitem__ = refuse


def deep_tuple():
    thing = ("names",)
    for _ in range(5000):
        thing = ("each", thing)
    return thing


# None of these is a kind, a worth, a part of one, a number or a list of anything.
ODD = [
    None, 1.5, 0.0, 2j, b"", b"a", [], [1], {}, {"a": 1}, set(), frozenset(), object(), len, int,
    Stubborn(), range(2), bytearray(b"a"), float("nan"), ..., NotImplemented,
]


def worth_of(chance, kind):
    """Some worth of the kind, the bottom now and then."""
    word = kind[0]
    if word == "names":
        return tuple(name for name in ["a", "ab", "b", "c", "zzzzzzzz"] if chance.random() < 0.4)
    if word == "most":
        return chance.choice([0, 0, 1, 2, 3, 10 ** 20])
    if word == "last":
        stamp = chance.choice([0, 1, 1, 2, 3])
        return (stamp, chance.choice([-7, -1, 0, 1, 5, 10 ** 20]) if stamp else 0)
    if word == "both":
        return (worth_of(chance, kind[1]), worth_of(chance, kind[2]))
    entries = [(name, worth_of(chance, kind[1])) for name in ["a", "b", "bb", "c"] if chance.random() < 0.5]
    return tuple((name, worth) for name, worth in entries if flat(kind[1], worth))


def flat(kind, worth):
    """The worth as a dict from places to what stands there, without any bottom: a way apart from the program's."""
    word = kind[0]
    if word == "names":
        return {(name,): 1 for name in worth}
    if word == "both":
        firsts = {(0, *place): there for place, there in flat(kind[1], worth[0]).items()}
        seconds = {(1, *place): there for place, there in flat(kind[2], worth[1]).items()}
        return {**firsts, **seconds}
    if word == "each":
        return {(name, *place): there for name, inner in worth for place, there in flat(kind[1], inner).items()}
    return {} if worth in (0, (0, 0)) else {(): worth}


def unflat(kind, places):
    """The worth that is so flat."""
    word = kind[0]
    if word == "names":
        return tuple(sorted(place[0] for place in places))
    if word == "both":
        return (unflat(kind[1], places_behind(0, places)), unflat(kind[2], places_behind(1, places)))
    if word == "each":
        names = sorted({place[0] for place in places})
        return tuple((name, unflat(kind[1], places_behind(name, places))) for name in names)
    return places.get((), 0 if word == "most" else (0, 0))


def places_behind(first, places):
    return {place[1:]: there for place, there in places.items() if place[0] == first}


def joined(kind, worths):
    """The join of one worth at least."""
    whole = worths[0]
    for worth in worths[1:]:
        whole = join(kind, whole, worth)
    return whole


def snapshot(house):
    """All that can be asked of a house."""
    hands = range(house.hands())
    return (
        house.kind(), house.hands(), house.letters(), house.waiting(), house.history(),
        [house.held(hand) for hand in hands], [house.purse(hand) for hand in hands],
        [house.asks(hand) for hand in hands], [house.told(hand) for hand in hands],
        [house.has_fallen(hand) for hand in hands],
    )


def snapshot_of_cells(cells, hands):
    """All that can be asked of cells of so many hands."""
    history = cells.history()
    deeds = [event[1] for event in history if event[0] == "begin"]
    return (
        cells.letters(), cells.waiting(), history, [cells.result(deed) for deed in deeds],
        [cells.has_fallen(hand) for hand in range(hands)],
    )


def run_house(chance, kind, hands, most_falls, steps=60):
    """Wish, bring letters (new, late or again), send anew and fall by chance; the house behind it."""
    house = House(kind, hands)
    falls = 0
    for _ in range(chance.randrange(5, steps)):
        dice = chance.random()
        standing = [hand for hand in range(hands) if not house.has_fallen(hand)]
        if dice < 0.25 and standing:
            house.wish(chance.choice(standing), worth_of(chance, kind))
        elif dice < 0.28 and falls < most_falls:
            house.fall(chance.choice(standing))
            falls += 1
        elif dice < 0.32 and standing:
            house.again(chance.choice(standing))
        elif dice < 0.5 and house.letters():
            house.deliver(chance.randrange(len(house.letters())) + 1)
        elif house.waiting():
            house.deliver(chance.choice(house.waiting()))
    return house


def free_hands(cells, hands):
    """The hands that stand and have no deed that is not over."""
    history = cells.history()
    over = {event[1] for event in history if event[0] == "end"}
    busy = {event[2] for event in history if event[0] == "begin" and event[1] not in over}
    return [hand for hand in range(hands) if hand not in busy and not cells.has_fallen(hand)]


def run_cells(chance, hands, most_falls, steps=80):
    """Write, look, bring letters (new, late or again), send anew and fall by chance; the cells behind it."""
    cells = Cells(hands)
    falls = 0
    for step in range(chance.randrange(5, steps)):
        dice = chance.random()
        free = free_hands(cells, hands)
        standing = [hand for hand in range(hands) if not cells.has_fallen(hand)]
        if dice < 0.2 and free:
            # No number twice, so that a look tells which write it saw.
            cells.write(chance.choice(free), chance.choice([-1, 1]) * (step + 1))
        elif dice < 0.4 and free:
            cells.look(chance.choice(free))
        elif dice < 0.43 and falls < most_falls:
            cells.fall(chance.choice(standing))
            falls += 1
        elif dice < 0.47 and standing:
            cells.again(chance.choice(standing))
        elif dice < 0.6 and cells.letters():
            cells.deliver(chance.randrange(len(cells.letters())) + 1)
        elif cells.waiting():
            cells.deliver(chance.choice(cells.waiting()))
    return cells


def comparable(kind, one, other):
    return under(kind, one, other) or under(kind, other, one)
