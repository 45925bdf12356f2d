"""Orders: which deeds of a history of cells must stand ahead of which, and in which row they can be done."""

from growjoin.joins import is_whole


class Record:
    """A history of cells, read deed by deed."""

    def __init__(self, history):
        # By deeds: the places where they began and ended, who did them, and what they told.
        self.begun = {}
        self.ended = {}
        self.doers = {}
        self.results = {}
        # By writes their numbers, and by hands their writes, as they began.
        self.written = {}
        self.writes = {}
        for place, event in enumerate(history):
            if event[0] == "begin":
                self.take_begin(place, event)
            elif event[0] == "end":
                self.ended[event[1]] = place
                self.results[event[1]] = event[2]
        # Looks that are over, by their ends, each with the writes that it sees.
        self.seen = {deed: self.seen_by(deed) for deed in self.ended if deed not in self.written}
        self.counting = sorted([deed for deed in self.begun if self.counts(deed)])

    def take_begin(self, place, event):
        deed, hand, word, number = event[1:]
        self.begun[deed] = place
        self.doers[deed] = hand
        if word == "write":
            self.written[deed] = number
            self.writes.setdefault(hand, []).append(deed)

    def seen_by(self, look):
        seen = {}
        for hand, number in self.results[look]:
            for write in self.writes_up_to(hand, number):
                seen[write] = True
        return seen

    def writes_up_to(self, hand, number):
        """The hand's writes up to the one with this number, whenever it began; none where none has it."""
        writes = self.writes.get(hand, [])
        numbers = [self.written[write] for write in writes]
        return writes[:numbers.index(number) + 1] if number in numbers else []

    def counts(self, deed):
        return deed in self.ended or any(deed in seen for seen in self.seen.values())

    def is_tied(self, one, other):
        """Whether one must stand ahead of the other."""
        if one == other:
            return False
        if self.ended_ahead(one, other) or self.wrote_ahead(one, other):
            return True
        if other in self.seen and one in self.seen[other]:
            return True
        return one in self.seen and other in self.written and other not in self.seen[one]

    def ended_ahead(self, one, other):
        return one in self.ended and self.ended[one] < self.begun[other]

    def wrote_ahead(self, one, other):
        if one not in self.written or other not in self.written:
            return False
        return self.doers[one] == self.doers[other] and self.begun[one] < self.begun[other]

    def all_ties(self):
        return [(one, other) for one in self.counting for other in self.counting if self.is_tied(one, other)]

    def first_strange(self):
        for look in self.seen:
            if not all(self.had_begun(hand, number, self.ended[look]) for hand, number in self.results[look]):
                return look
        return None

    def had_begun(self, hand, number, place):
        """Whether a write of the hand with this number began ahead of the place."""
        return any(self.written[write] == number and self.begun[write] < place for write in self.writes.get(hand, []))

    def keeps_time(self, row):
        """Whether none of the row stands ahead of one that ended ahead of its beginning."""
        latest = -1
        for deed in row:
            if deed in self.ended and self.ended[deed] < latest:
                return False
            latest = max(latest, self.begun[deed])
        return True

    def tells_the_same(self, row):
        """Whether each look tells what it told, where the row is done one by one."""
        now = {}
        for deed in row:
            if deed in self.written:
                now[self.doers[deed]] = self.written[deed]
            elif self.results[deed] != sorted(now.items()):
                return False
        return True


def put_in_row(deeds, pairs):
    """The deeds, ties leading forward, the least next where several may; those in and behind rings are left out."""
    behind = {deed: [] for deed in deeds}
    many_ahead = {deed: 0 for deed in deeds}
    for one, other in pairs:
        behind[one].append(other)
        many_ahead[other] += 1
    row = []
    free = [deed for deed in deeds if many_ahead[deed] == 0]
    while free:
        deed = min(free)
        free.remove(deed)
        row.append(deed)
        for other in behind[deed]:
            many_ahead[other] -= 1
            if many_ahead[other] == 0:
                free.append(other)
    return row


def walk_round(left, pairs):
    """A ring among deeds of which each is tied behind another one of them."""
    ahead = {other: one for one, other in pairs if one in left}
    walked = []
    deed = left[0]
    # Against the ties: there is always one ahead, so the walk comes back to where it was.
    while deed not in walked:
        walked.append(deed)
        deed = ahead[deed]
    return list(reversed(walked[walked.index(deed):]))


def ties(history):
    """All pairs of deeds that count of which the first must stand ahead of the second, sorted."""
    return Record(history).all_ties()


def strange(history):
    """The first look, by its end, that tells what was not written by then, or None."""
    return Record(history).first_strange()


def order(history):
    """All deeds that count, every tie leading forward, the least next where several may; None where none can be."""
    record = Record(history)
    row = put_in_row(record.counting, record.all_ties())
    if record.first_strange() is not None or len(row) < len(record.counting):
        return None
    return row


def ring(history):
    """Deeds each tied to the next one and the last one to the first, or None where ties lead round nowhere."""
    record = Record(history)
    pairs = record.all_ties()
    row = put_in_row(record.counting, pairs)
    left = [deed for deed in record.counting if deed not in row]
    return walk_round(left, pairs) if left else None


def is_order(history, row):
    """Whether the row, done one by one, has each deed that counts once, keeps to time and tells what was told."""
    record = Record(history)
    # What is no number can neither be sorted among deeds nor be one; a truth is none, though it looks like deed 1.
    if not all(is_whole(deed) for deed in row) or sorted(row) != record.counting:
        return False
    return record.keeps_time(row) and record.tells_the_same(row)
