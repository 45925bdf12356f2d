"""What several tests need: kinds, worths, odd things, and joins told in another way."""

from growjoin.joins import join, under

NAMES = ("names",)
MOST = ("most",)
LAST = ("last",)
PLAIN = [NAMES, MOST, LAST]


def each(kind):
    return ("each", kind)


def both(one, other):
    return ("both", one, other)


def kinds_up_to(depth):
    """All kinds of at most so many tuples within one another."""
    kinds = list(PLAIN)
    for _ in range(depth - 1):
        kinds = PLAIN + [each(kind) for kind in kinds] + [both(one, other) for one in kinds for other in kinds]
    return kinds


SOME_KINDS = kinds_up_to(2) + [
    each(each(NAMES)),
    each(each(LAST)),
    each(both(MOST, NAMES)),
    both(each(LAST), NAMES),
    both(MOST, both(LAST, each(MOST))),
    each(each(each(MOST))),
    each(both(each(NAMES), LAST)),
    both(both(both(NAMES, MOST), LAST), each(each(LAST))),
]


class Stubborn:
    """Nothing can be done with it: it cannot be compared, shown, measured, tested or looked up."""

    def refuse(self, *rest):
        raise RuntimeError("this was touched")

    __eq__ = __ne__ = __lt__ = __gt__ = __le__ = __ge__ = refuse
    __hash__ = __repr__ = __str__ = __len__ = __bool__ = __iter__ = __getitem__ = refuse


def deep_tuple():
    thing = ("names",)
    for _ in range(5000):
        thing = ("each", thing)
    return thing


# None of these is a kind, a worth, a part of one, a number or a list of anything.
ODD = [
    None, 1.5, 0.0, 2j, b"", b"a", [], [1], {}, {"a": 1}, set(), frozenset(), object(), len, int,
    Stubborn(), range(2), bytearray(b"a"), float("nan"), ..., NotImplemented,
]


def worth_of(chance, kind):
    """Some worth of the kind, the bottom now and then."""
    word = kind[0]
    if word == "names":
        return tuple(name for name in ["a", "ab", "b", "c", "zzzzzzzz"] if chance.random() < 0.4)
    if word == "most":
        return chance.choice([0, 0, 1, 2, 3, 10 ** 20])
    if word == "last":
        stamp = chance.choice([0, 1, 1, 2, 3])
        return (stamp, chance.choice([-7, -1, 0, 1, 5, 10 ** 20]) if stamp else 0)
    if word == "both":
        return (worth_of(chance, kind[1]), worth_of(chance, kind[2]))
    entries = [(name, worth_of(chance, kind[1])) for name in ["a", "b", "bb", "c"] if chance.random() < 0.5]
    return tuple((name, worth) for name, worth in entries if flat(kind[1], worth))


def flat(kind, worth):
    """The worth as a dict from places to what stands there, without any bottom: a way apart from the program's."""
    word = kind[0]
    if word == "names":
        return {(name,): 1 for name in worth}
    if word == "both":
        firsts = {(0, *place): there for place, there in flat(kind[1], worth[0]).items()}
        seconds = {(1, *place): there for place, there in flat(kind[2], worth[1]).items()}
        return {**firsts, **seconds}
    if word == "each":
        return {(name, *place): there for name, inner in worth for place, there in flat(kind[1], inner).items()}
    return {} if worth in (0, (0, 0)) else {(): worth}


def unflat(kind, places):
    """The worth that is so flat."""
    word = kind[0]
    if word == "names":
        return tuple(sorted(place[0] for place in places))
    if word == "both":
        return (unflat(kind[1], places_behind(0, places)), unflat(kind[2], places_behind(1, places)))
    if word == "each":
        names = sorted({place[0] for place in places})
        return tuple((name, unflat(kind[1], places_behind(name, places))) for name in names)
    return places.get((), 0 if word == "most" else (0, 0))


def places_behind(first, places):
    return {place[1:]: there for place, there in places.items() if place[0] == first}


def joined(kind, worths):
    """The join of one worth at least."""
    whole = worths[0]
    for worth in worths[1:]:
        whole = join(kind, whole, worth)
    return whole


def snapshot(house):
    """All that can be asked of a house."""
    hands = range(house.hands())
    return (
        house.kind(), house.hands(), house.letters(), house.waiting(), house.history(),
        [house.held(hand) for hand in hands], [house.purse(hand) for hand in hands],
        [house.asks(hand) for hand in hands], [house.told(hand) for hand in hands],
        [house.has_fallen(hand) for hand in hands],
    )


def comparable(kind, one, other):
    return under(kind, one, other) or under(kind, other, one)
