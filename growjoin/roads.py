"""Roads: letters of a house, or of cells, brought one after another."""

from growjoin.errors import TooLong


def play(house, numbers):
    """Bring the letters with these numbers; tells the words."""
    words = []
    for number in numbers:
        words.append(house.deliver(number))
    return words


def drive(house, wishes, *, most=2000):
    """Bring letters until none waits, which one by the wishes, over and over."""
    brought = 0
    waiting = house.waiting()
    while waiting:
        if brought >= most:
            raise TooLong(most)
        wish = wishes[brought % len(wishes)] if wishes else 0
        house.deliver(waiting[wish % len(waiting)])
        brought += 1
        waiting = house.waiting()
