"""What hands know together, what one of them has halved, and hands behind a row of deeds."""

from wholefaces.checks import demand
from wholefaces.errors import NoDeed
from wholefaces.handclasses import Hands
from wholefaces.kinds import is_number
from wholefaces.nodes import leaves_by_points
from wholefaces.orders import in_order

# How many numbers stand behind the word of a deed; with two of them, and behind resend, the first one is a hand.
NUMBERS_BEHIND = {"learn": 2, "bring": 1, "lose": 1, "double": 1, "resend": 1, "fall": 2}
HAND_FIRST = ("learn", "resend", "fall")


def is_hand_deed(hands, thing):
    """Whether any thing is a deed of these hands."""
    if not isinstance(thing, tuple) or len(thing) == 0:
        return False
    word, numbers = thing[0], thing[1:]
    if not isinstance(word, str) or NUMBERS_BEHIND.get(word) != len(numbers):
        return False
    if not all([is_number(number) for number in numbers]):
        return False
    return word not in HAND_FIRST or hands.is_hand(numbers[0])


def do_deed(hands, deed):
    """Does to the hands what the deed tells."""
    word = deed[0]
    if word == "learn":
        hands.learn(deed[1], deed[2])
    elif word == "bring":
        hands.bring(deed[1])
    elif word == "lose":
        hands.lose(deed[1])
    elif word == "double":
        hands.double(deed[1])
    elif word == "resend":
        hands.resend(deed[1])
    else:
        hands.fall(deed[1], deed[2])


def part_of(hands, hand):
    """The names of the blocks that come of the hand's roots, just those being halved whose middle it knows."""
    demand(isinstance(hands, Hands), "hands")
    known = hands.known(hand)
    frame, _, owners = hands.told()
    leaves = leaves_by_points(frame[0], known)
    return tuple([name for name, _ in leaves if owners[name[0]] == hand])


def joined_of(hands):
    """All points that hands know, in order."""
    demand(isinstance(hands, Hands), "hands")
    frame, _, owners = hands.told()
    points = [point for hand in range(max(owners) + 1) for point in hands.known(hand)]
    return in_order(frame[0][0], tuple(points))


def hands_told(frame, test, owners, deeds):
    """The hands behind the deeds, one after the other."""
    hands = Hands(frame, test, owners)
    demand(isinstance(deeds, tuple) and all([is_hand_deed(hands, deed) for deed in deeds]), "deeds")
    for k, deed in enumerate(deeds):
        try:
            do_deed(hands, deed)
        except NoDeed:
            raise NoDeed(k) from None
    return hands
