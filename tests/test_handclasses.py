"""Hands, [68], [70] and [71]; (G6) of [11]."""

import unittest

from musttools import BAR, FLAT, FRAME, FRAME_PARAMETERS, REFUSING, TEST, WRONG_TESTS, draw_known
from tools import PAIR, SQUARE, WRONG_NUMBERS, check_parameters
from wholefaces.errors import NoDeed, NotUsable
from wholefaces.handclasses import Hands
from worlds import worlds

WRONG_PLACES = (-1, True, False, None, "0", (), (0,), [0], 10 ** 59, "")


class Copy:
    """What the hands know and what letters there are, kept by the words of [68]."""

    def __init__(self, known, owners):
        self.known, self.owners = known, owners
        self.world = known.world
        self.own = [[] for _ in range(max(owners) + 1)]
        self.letters = []
        self.holders = {p: sorted({owners[k] for k in range(len(owners)) if self.world.block_holds((k, ""), p)}) for p in known.points}

    def waiting(self, hand):
        world, known = self.world, self.known
        found = [world.middle[name] for name in known.bad if known.deep and name[1] == "" and self.owners[name[0]] == hand]
        for point in self.own[hand]:
            for number, path in world.ring[point]:
                if self.owners[number] == hand:
                    found += [corner for corner in world.blocks[(number, path)] if corner in known.musts]
                    halves = [(number, path + figure) for figure in "01"]
                    found += [world.middle[half] for half in halves if half in known.bad and len(half[1]) < known.deep]
        return world.order(point for point in found if point not in self.own[hand])

    def refuses(self, hand):
        known = self.known
        if known.deep == 0:
            return any(name[1] == "" and self.owners[name[0]] == hand for name in known.bad)
        return any((number, path + figure) in known.bad and len(path) + 1 == known.deep for point in self.own[hand]
                   for number, path in self.world.ring[point] if self.owners[number] == hand for figure in "01")

    def tell(self, hand, point):
        self.letters += [(other, point) for other in self.holders[point] if other != hand]

    def calm(self):
        if any(self.waiting(hand) for hand in range(len(self.own))):
            return False
        return all(point in self.own[hand] for row in self.own for point in row for hand in self.holders[point])

    def learn(self, hand, place):
        point = self.waiting(hand)[place]
        self.own[hand].append(point)
        self.tell(hand, point)
        return point

    def bring(self, place):
        hand, point = self.letters.pop(place)
        if point not in self.own[hand]:
            self.own[hand].append(point)

    def lose(self, place):
        self.letters.pop(place)

    def double(self, place):
        self.letters.append(self.letters[place])

    def resend(self, hand):
        for point in self.own[hand]:
            self.tell(hand, point)

    def fall(self, hand, many):
        self.own[hand] = self.own[hand][:many]


class HandsTest(unittest.TestCase):

    def check(self, hands, copy):
        for hand in range(len(copy.own)):
            self.assertEqual(hands.known(hand), tuple(copy.own[hand]))
            self.assertEqual(hands.waiting(hand), copy.waiting(hand))
            self.assertIs(hands.refuses(hand), copy.refuses(hand))
            self.assertLessEqual(set(hands.known(hand)), copy.known.forced())
        self.assertEqual(hands.letters(), tuple(copy.letters))
        self.assertIs(hands.calm(), copy.calm())

    def step(self, rolls, hands, copy):
        """One event, on both."""
        kind, hand = rolls.randrange(12), rolls.randrange(len(copy.own))
        if kind < 5 and copy.waiting(hand):
            place = rolls.randrange(len(copy.waiting(hand)))
            self.assertEqual(hands.learn(hand, place), copy.learn(hand, place))
        elif kind < 10 and copy.letters:
            word = ("bring", "bring", "bring", "lose", "double")[kind - 5 if kind >= 5 else 0]
            place = rolls.randrange(len(copy.letters))
            self.assertIsNone(getattr(hands, word)(place))
            getattr(copy, word)(place)
        elif kind == 10 and len(copy.letters) < 40:
            self.assertIsNone(hands.resend(hand))
            copy.resend(hand)
        elif kind == 11:
            many = rolls.randrange(len(copy.own[hand]) + 3)
            self.assertIsNone(hands.fall(hand, many))
            copy.fall(hand, many)

    def finish(self, hands, copy):
        """Until they are calm: each learns all that waits and resends, and all letters are brought."""
        rounds = 0
        while not hands.calm():
            for hand in range(len(copy.own)):
                while hands.waiting(hand):
                    hands.learn(hand, 0)
                hands.resend(hand)
            while hands.letters():
                hands.bring(len(hands.letters()) - 1)
            rounds += 1
            self.assertLess(rounds, 300)

    def test_example(self):
        hands = Hands(FRAME, TEST, (0, 1))
        self.assertEqual((hands.learn(1, 0), hands.learn(1, 0), hands.letters()), ((2, 2), (2, 0), ((0, (2, 2)),)))
        self.assertEqual((hands.calm(), hands.bring(0), hands.calm()), (False, None, True))
        self.assertEqual((hands.known(0), hands.known(1), hands.letters()), (((2, 2),), ((2, 2), (2, 0)), ()))

    def test_drawn_histories(self):
        rolls, made = worlds(661, 50)
        refused = 0
        for world in made:
            frame, test, known = draw_known(rolls, world, 120)
            owners = tuple(rolls.randrange(rolls.choice((1, 2, 3, 6))) for _ in world.roots)
            hands, copy = Hands(frame, test, owners), Copy(known, owners)
            self.check(hands, copy)
            for _ in range(14):
                self.step(rolls, hands, copy)
                self.check(hands, copy)
            self.finish(hands, copy)
            forced = known.forced() - {BAR}
            for hand in range(max(owners) + 1):
                held = {p for p in forced if hand in copy.holders[p]}
                self.assertEqual(set(hands.known(hand)), held)
            told = any(hands.refuses(hand) for hand in range(max(owners) + 1))
            self.assertIs(told, known.refuses())
            refused += told
        self.assertGreater(refused, 5)

    def test_letters(self):
        hands = Hands(FRAME, TEST, (0, 1))
        hands.learn(1, 0)
        hands.double(0)
        self.assertEqual(hands.letters(), ((0, (2, 2)), (0, (2, 2))))
        hands.learn(1, 0)
        hands.resend(1)
        self.assertEqual(hands.letters(), ((0, (2, 2)),) * 3)
        hands.bring(1)
        hands.bring(0)
        self.assertEqual((hands.known(0), hands.letters()), (((2, 2),), ((0, (2, 2)),)))
        hands.lose(0)
        self.assertEqual(hands.letters(), ())
        hands.resend(0)
        self.assertEqual(hands.letters(), ((1, (2, 2)),))
        hands.fall(1, 1)
        self.assertEqual((hands.known(1), hands.waiting(1), hands.calm()), (((2, 2),), ((2, 0),), False))
        hands.fall(1, 0)
        hands.bring(0)
        self.assertEqual(hands.known(1), ((2, 2),))
        hands.fall(1, 7)
        self.assertEqual(hands.known(1), ((2, 2),))

    def test_a_letter_to_each_other_hand(self):
        hands = Hands((PAIR, 2, (), ()), ("bad", ((0, ""), (1, ""), (1, "1"))), (2, 4, 1, 0))
        self.assertEqual(hands.learn(4, 0), (2, 2))
        self.assertEqual(hands.letters(), ((2, (2, 2)),))
        self.assertEqual(hands.waiting(4), ((4, 2),))
        hands.learn(4, 0)
        self.assertEqual(hands.letters(), ((2, (2, 2)), (1, (4, 2))))
        hands.bring(1)
        self.assertEqual((hands.known(1), hands.waiting(1)), (((4, 2),), ((6, 2),)))
        hands.learn(1, 0)
        self.assertEqual(hands.letters(), ((2, (2, 2)), (0, (6, 2))))
        # Hand 3 has no root, and so nothing to do.
        self.assertEqual((hands.known(3), hands.waiting(3), hands.refuses(3)), ((), (), False))
        hands.resend(3)
        hands.fall(3, 2)
        self.assertEqual(len(hands.letters()), 2)

    def test_one_hand_with_several_roots(self):
        hands = Hands(FLAT, REFUSING, (0, 0))
        self.assertIs(hands.refuses(0), False)
        self.assertEqual((hands.learn(0, 0), hands.learn(0, 0)), ((2, 2), (2, 0)))
        self.assertEqual((hands.refuses(0), hands.letters(), hands.calm()), (True, (), True))
        self.assertRaises(NotUsable, hands.known, 1)

    def test_own_blocks_alone(self):
        hands = Hands(FRAME, ("bad", ((1, ""), (0, "0"))), (0, 1))
        hands.learn(1, 0)
        self.assertEqual(hands.waiting(1), ())
        hands.bring(0)
        self.assertEqual(hands.waiting(0), ((0, 2),))
        self.assertIs(Hands(FLAT, REFUSING, (1, 0)).refuses(0), False)

    def test_deep_nought(self):
        hands = Hands((SQUARE, 0, (), ()), ("bad", ((1, ""),)), (0, 1))
        self.assertEqual([hands.refuses(hand) for hand in (0, 1)], [False, True])
        self.assertEqual((hands.waiting(0), hands.waiting(1), hands.calm()), ((), (), True))
        self.assertRaises(NoDeed, hands.learn, 1, 0)

    def test_no_deed(self):
        hands = Hands(FRAME, TEST, (0, 1))
        hands.learn(1, 0)
        for place in WRONG_PLACES + (1, 2):
            for call in (hands.bring, hands.lose, hands.double, lambda place: hands.learn(1, place)):
                with self.assertRaises(NoDeed) as caught:
                    call(place)
                self.assertIs(caught.exception.place, place)
        self.assertRaises(NoDeed, hands.learn, 0, 0)
        self.assertEqual((hands.letters(), hands.known(1), hands.known(0)), (((0, (2, 2)),), ((2, 2),), ()))

    def test_objects_share_nothing(self):
        one, other = Hands(FRAME, TEST, (0, 1)), Hands(FRAME, TEST, (0, 1))
        letters = one.letters()
        one.learn(1, 0)
        self.assertEqual((letters, other.letters(), other.known(1), len(one.letters())), ((), (), (), 1))

    def test_parameters(self):
        def told(frame, test, owners):
            return Hands(frame, test, owners).waiting(0)
        owners = (None, True, 0, "", (), [0, 1], (0,), (0, 1, 0), (0, -1), (0, True), (0, None), (0, "1"), (0, (1,)), "01")
        good = [("frame", FLAT), ("test", TEST), ("owners", (1, 0))]
        check_parameters(self, told, good, {"frame": FRAME_PARAMETERS, "test": WRONG_TESTS, "owners": owners})
        hands = Hands(owners=(0, 1), frame=FRAME, test=TEST)
        wrong = {"hand": WRONG_NUMBERS + (2, 10 ** 59), "many": WRONG_NUMBERS}
        for method in (hands.known, hands.waiting, hands.resend, hands.refuses):
            check_parameters(self, method, [("hand", 1)], wrong)
        check_parameters(self, hands.fall, [("hand", 1), ("many", 3)], wrong)
        for hand in wrong["hand"]:
            for place in (0, None, -1):
                with self.assertRaises(NotUsable) as caught:
                    hands.learn(place=place, hand=hand)
                self.assertEqual((caught.exception.word, caught.exception.at), ("hand", -1))
        self.assertEqual(hands.learn(place=0, hand=1), (2, 2))
        self.assertIsNone(hands.double(place=0))
        self.assertIsNone(hands.lose(place=0))
        self.assertIsNone(hands.bring(place=0))


if __name__ == "__main__":
    unittest.main()
