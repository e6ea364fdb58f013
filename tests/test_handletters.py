"""Letters of hands, [69]; [71]; (G6) of [11]."""

import unittest

from musttools import BAR, FLAT, FRAME, FRAME_PARAMETERS, TEST, WRONG_TESTS, draw_known
from test_handclasses import Copy
from tools import PAIR, WRONG_NUMBERS, check_parameters
from wholefaces.errors import NoDeed, NotUsable
from wholefaces.handclasses import Hands
from wholefaces.handletters import hands_told, joined_of, part_of
from worlds import worlds

WRONG_HANDS = (None, True, 0, "hands", (), (FRAME, TEST, (0, 1)), [0])
WRONG_DEEDS = (None, True, 0, "learn", [], [("lose", 0)], ("lose", 0), (("lose",),), (("lose", 0, 0),), (("lose", True),), (("bring", -1),),
               (("bring", None),), (("double", "0"),), (("double", (0,)),), (["bring", 0],), (("learn", 0),), (("learn", 2, 0),),
               (("learn", True, 0),), (("learn", 1, True),), (("learn", -1, 0),), (("resend",),), (("resend", 2),), (("resend", False),),
               (("resend", 0, 0),), (("fall", 0),), (("fall", 2, 0),), (("fall", 0, -1),), (("fall", 0, False),), (("fall", 0, None),), ((),),
               (("tell", 0),), (("", 0),), ((None, 0),), ((True, 0),), (("resend", 0), None), (("resend", 0), ("calm",)), ((["learn"], 0, 0),),
               (("learn", 1, [0]),), (("refuses", 0),), (("known", 0),))


def parts_oracle(world, owners, hand, known):
    """The names of the blocks of a hand's roots that come and are not halved."""
    row = [(k, "") for k in range(len(owners)) if owners[k] == hand]
    found = []
    while row:
        name = row.pop()
        if world.middle.get(name) in known:
            row += [(name[0], name[1] + figure) for figure in "01"]
        else:
            found.append(name)
    return tuple(sorted(found))


def draw_deed(rolls, copy):
    """A deed that can be done."""
    hand = rolls.randrange(len(copy.own))
    deeds = [("fall", hand, rolls.randrange(len(copy.own[hand]) + 3)), ("resend", hand)]
    if len(copy.letters) > 30:
        deeds.pop()
    if copy.letters:
        deeds += [(word, rolls.randrange(len(copy.letters))) for word in ("bring", "bring", "lose", "double")]
    if copy.waiting(hand):
        deeds += [("learn", hand, rolls.randrange(len(copy.waiting(hand)))) for _ in range(6)]
    return rolls.choice(deeds)


def undoable(rolls, copy):
    """A deed that cannot be done."""
    hand = rolls.randrange(len(copy.own))
    letter = len(copy.letters) + rolls.randrange(3)
    return rolls.choice([("learn", hand, len(copy.waiting(hand)) + rolls.randrange(3)), ("bring", letter), ("lose", letter), ("double", letter)])


class HandLettersTest(unittest.TestCase):

    def check(self, hands, copy, owners):
        """Checks all that is told of the hands."""
        for hand in range(len(copy.own)):
            self.assertEqual(hands.known(hand), tuple(copy.own[hand]))
            self.assertEqual(part_of(hands, hand), parts_oracle(copy.world, owners, hand, copy.own[hand]))
        self.assertEqual(hands.letters(), tuple(copy.letters))
        self.assertEqual(joined_of(hands), copy.world.order(point for row in copy.own for point in row))

    def test_example(self):
        hands = Hands(FRAME, TEST, (0, 1))
        self.assertEqual(part_of(hands, 1), ((1, ""),))
        hands.learn(1, 0)
        hands.learn(1, 0)
        self.assertEqual(part_of(hands, 1), ((1, "00"), (1, "01"), (1, "1")))
        self.assertEqual((part_of(hands, 0), joined_of(hands)), (((0, ""),), ((2, 2), (2, 0))))
        hands.bring(0)
        self.assertEqual((part_of(hands, 0), joined_of(hands)), (((0, "0"), (0, "1")), ((2, 2), (2, 0))))

    def test_drawn_histories(self):
        rolls, made = worlds(691, 60)
        calm = 0
        for world in made:
            frame, test, known = draw_known(rolls, world, 120)
            owners = tuple(rolls.randrange(rolls.choice((1, 2, 3, 6))) for _ in world.roots)
            hands, copy, deeds = Hands(frame, test, owners), Copy(known, owners), []
            self.check(hands, copy, owners)
            for _ in range(12):
                deed = draw_deed(rolls, copy)
                getattr(copy, deed[0])(*deed[1:])
                getattr(hands, deed[0])(*deed[1:])
                deeds.append(deed)
                self.check(hands, copy, owners)
            told = hands_told(frame, test, owners, tuple(deeds))
            self.check(told, copy, owners)
            self.check_fault(rolls, frame, test, owners, tuple(deeds), copy)
            calm += self.go_on(told, copy, known, owners)
        self.assertGreater(calm, 30)

    def check_fault(self, rolls, frame, test, owners, deeds, copy):
        """A deed that cannot be done, in the middle and at the end: its place is told."""
        wrong = deeds + (undoable(rolls, copy), ("lose", 10 ** 9))
        with self.assertRaises(NoDeed) as caught:
            hands_told(frame, test, owners, wrong)
        self.assertEqual(caught.exception.place, len(deeds))

    def go_on(self, hands, copy, known, owners):
        """Until they are calm: what they know then are the forced points, cut up as in their mesh."""
        for _ in range(200):
            if hands.calm():
                break
            for hand in range(len(copy.own)):
                while hands.waiting(hand):
                    hands.learn(hand, 0)
                hands.resend(hand)
            while hands.letters():
                hands.bring(0)
        self.assertTrue(hands.calm())
        lot = known.world.order(known.forced() - {BAR})
        self.assertEqual(joined_of(hands), lot)
        leaves = known.world.leaves(lot)
        for hand in range(len(copy.own)):
            self.assertEqual(part_of(hands, hand), tuple(name for name in leaves if owners[name[0]] == hand))
        return len(lot) > 0

    def test_nothing(self):
        hands = hands_told(FRAME, TEST, (0, 1), ())
        self.assertEqual((hands.known(0), hands.known(1), hands.letters(), hands.waiting(1)), ((), (), (), ((2, 2),)))
        self.assertEqual((joined_of(hands), part_of(hands, 0), part_of(hands, 1)), ((), ((0, ""),), ((1, ""),)))

    def test_a_hand_without_roots(self):
        hands = hands_told((PAIR, 2, (), ()), ("bad", ((0, ""),)), (2, 0, 2, 0), (("learn", 2, 0), ("bring", 0), ("resend", 1), ("fall", 1, 4)))
        self.assertEqual((part_of(hands, 1), hands.known(1)), ((), ()))
        self.assertEqual((part_of(hands, 2), part_of(hands, 0)), (((0, "0"), (0, "1"), (2, "")), ((1, "0"), (1, "1"), (3, ""))))
        # A point that came ahead of what it needs halves nothing yet.
        hands = hands_told((PAIR, 2, (), ()), ("bad", ((1, ""), (1, "1"))), (0, 1, 2, 3),
                           (("learn", 1, 0), ("learn", 1, 0), ("bring", 1)))
        self.assertEqual((hands.known(2), part_of(hands, 2)), (((4, 2),), ((2, ""),)))

    def test_first_fault(self):
        for deeds, place in (((("lose", 0),), 0), ((("learn", 1, 0), ("learn", 1, 1)), 1), ((("learn", 1, 0), ("bring", 0), ("bring", 0)), 2),
                             ((("resend", 0), ("fall", 1, 0), ("double", 0), ("learn", 1, 5)), 2)):
            with self.assertRaises(NoDeed) as caught:
                hands_told(FRAME, TEST, (0, 1), deeds)
            self.assertEqual(caught.exception.place, place)

    def test_told_hands_are_new(self):
        one, other = [hands_told(FRAME, TEST, (0, 1), (("learn", 1, 0),)) for _ in range(2)]
        one.learn(1, 0)
        self.assertEqual((len(one.known(1)), len(other.known(1))), (2, 1))
        self.assertEqual(other.learn(1, 0), (2, 0))

    def test_parameters(self):
        hands = hands_told(FRAME, TEST, (0, 1), (("learn", 1, 0),))
        wrong = {"hands": WRONG_HANDS, "hand": WRONG_NUMBERS + (2, 10 ** 59)}
        check_parameters(self, part_of, [("hands", hands), ("hand", 1)], wrong)
        check_parameters(self, joined_of, [("hands", hands)], wrong)
        owners = (None, True, 0, "", (), [0, 1], (0,), (0, 1, 0), (0, -1), (0, True), (0, None))

        def told(frame, test, owners, deeds):
            return hands_told(deeds=deeds, owners=owners, test=test, frame=frame).letters()
        good = [("frame", FLAT), ("test", TEST), ("owners", (1, 0)), ("deeds", (("learn", 0, 0),))]
        check_parameters(self, told, good, {"frame": FRAME_PARAMETERS, "test": WRONG_TESTS, "owners": owners, "deeds": WRONG_DEEDS})
        # What is not as stated is told ahead of what cannot be done.
        with self.assertRaises(NotUsable):
            hands_told(FRAME, TEST, (0, 1), (("lose", 0), ("lose", -1)))


if __name__ == "__main__":
    unittest.main()
