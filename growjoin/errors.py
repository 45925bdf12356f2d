"""The refusals. Their words never show what was refused: it may be anything, also what cannot be shown."""


class JoinError(ValueError):
    """Any refusal."""


class NoKind(JoinError):
    """Handed in was no kind."""

    def __init__(self):
        super().__init__("this is no kind")


class NoHands(JoinError):
    """Handed in was no number of hands that a house can have."""

    def __init__(self):
        super().__init__("hands are a whole number from 1 on")


class NoHand(JoinError):
    """Handed in was no number of a hand."""

    def __init__(self, hand):
        super().__init__("there is no such hand")
        self.hand = hand


class NoWorth(JoinError):
    """Handed in was no worth of the kind."""

    def __init__(self):
        super().__init__("this is no worth of the kind")


class Fallen(JoinError):
    """The hand has fallen and does nothing any more."""

    def __init__(self, hand):
        super().__init__("this hand has fallen")
        self.hand = hand


class NoLetter(JoinError):
    """Handed in was no number of a letter."""

    def __init__(self, number):
        super().__init__("there is no such letter")
        self.number = number


class TooLong(JoinError):
    """Letters still wait when as many as allowed were brought."""

    def __init__(self, most):
        super().__init__("letters still wait")
        self.most = most


class Busy(JoinError):
    """A deed of the hand is not over."""

    def __init__(self, hand):
        super().__init__("a deed of this hand is not over")
        self.hand = hand


class NoDeed(JoinError):
    """Handed in was no number of a deed."""

    def __init__(self, deed):
        super().__init__("there is no such deed")
        self.deed = deed


class NoText(JoinError):
    """Handed in was nothing that is written so."""

    def __init__(self):
        super().__init__("nothing is written so")
