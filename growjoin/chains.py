"""Histories of worths: whether each event can be so, the row of what was told, and how often it was asked for."""

from growjoin.joins import bottom, is_whole, is_worth, join, under

# How many parts an event has, by its word.
PARTS = {"wish": 4, "ask": 4, "tell": 3, "fall": 2}


class HandSoFar:
    """What the events so far say of one hand."""

    def __init__(self, least):
        self.wished = least
        self.last_told = least
        self.asking = 0
        # None where it told since it asked last, or never asked; no worth is None.
        self.asked = None
        self.down = False


class SoFar:
    """What the events so far say of all hands, by which the next one can be or not."""

    def __init__(self, kind, hands):
        self.form = kind
        self.row = [HandSoFar(bottom(kind)) for place in range(hands)]
        self.wishes = 0
        self.wished = bottom(kind)
        self.rising = []

    def take(self, event):
        """Take the event in, where it can be; tells whether it can."""
        if not self.is_event(event):
            return False
        word = event[0]
        one = self.row[event[1]]
        if one.down:
            return False
        if word == "wish":
            return self.take_wish(one, event[2], event[3])
        if word == "ask":
            return self.take_ask(one, event[2], event[3])
        if word == "tell":
            return self.take_tell(one, event[2])
        one.down = True
        return True

    def is_event(self, event):
        if not isinstance(event, tuple) or len(event) == 0:
            return False
        # A word that is no text may not even be fit to be looked up.
        if not isinstance(event[0], str) or event[0] not in PARTS or len(event) != PARTS[event[0]]:
            return False
        if not is_whole(event[1]) or not 0 <= event[1] < len(self.row):
            return False
        return event[0] == "fall" or is_worth(self.form, event[-1])

    def take_wish(self, one, number, worth):
        if not is_next(number, self.wishes):
            return False
        self.wishes += 1
        self.wished = join(self.form, self.wished, worth)
        one.wished = join(self.form, one.wished, worth)
        return True

    def take_ask(self, one, number, worth):
        if not is_next(number, one.asking) or worth == one.asked:
            return False
        least = one.wished if one.asked is None else one.asked
        least = join(self.form, least, one.last_told)
        if not under(self.form, least, worth) or not under(self.form, worth, self.wished):
            return False
        one.asking += 1
        one.asked = worth
        return True

    def take_tell(self, one, worth):
        if worth != one.asked or not fits(self.form, self.rising, worth):
            return False
        put_in(self.form, self.rising, worth)
        one.last_told = worth
        one.asked = None
        return True


def is_next(number, last):
    # A truth is no number, though Python takes it for one.
    return is_whole(number) and number == last + 1


def place_in(kind, rising, worth):
    """How many worths of a rising row this one holds; those stand at its front."""
    # From the back on: what is told is mostly the greatest so far.
    place = len(rising)
    while place > 0 and not under(kind, rising[place - 1], worth):
        place -= 1
    return place


def fits(kind, rising, worth):
    """Whether the worth holds, or is held by, each one of a rising row."""
    place = place_in(kind, rising, worth)
    # All further ones hold the one at this place.
    return place == len(rising) or under(kind, worth, rising[place])


def put_in(kind, rising, worth):
    place = place_in(kind, rising, worth)
    if place == 0 or rising[place - 1] != worth:
        rising.insert(place, worth)


def wrong(kind, hands, history):
    """The place of the first event that can't be so, or None."""
    so_far = SoFar(kind, hands)
    for place, event in enumerate(history):
        if not so_far.take(event):
            return place
    return None


def chain(kind, history):
    """The told worths, each once, each held by all behind it."""
    rising = []
    for event in history:
        if event[0] == "tell":
            put_in(kind, rising, event[2])
    return rising


def askings(kind, history):
    """For each tell the hand, how often it asked for it, and how many wishes came in by asking anew."""
    wished = []
    asked = {}
    rows = []
    for event in history:
        word, hand = event[:2]
        if word == "wish":
            wished.append(event[3])
        elif word == "ask":
            asked.setdefault(hand, []).append(event[3])
        elif word == "tell":
            worths = asked.pop(hand)
            rows.append((hand, len(worths), count_new(kind, wished, worths[0], event[2])))
    return rows


def count_new(kind, wished, first, told):
    """How many of the wished worths the told one holds and the first asked one does not."""
    # Most are told as they were first asked, and then none is new: no need to look at each wish.
    if first == told:
        return 0
    return len([worth for worth in wished if under(kind, worth, told) and not under(kind, worth, first)])
