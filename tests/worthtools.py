"""Worths, prices and flows drawn at random, and what the definitions say of them, told out in full."""

from fractions import Fraction

from meshtools import FLAT, as_fraction
from musttools import BAR, Known, draw_frame, draw_names
from tools import WRONG_QUOTIENTS, pair_of
from wholefaces.mustclasses import Musts
from worlds import OFF_POINTS, worlds

W = (((2, 2), (-3, 1)), ((0, 2), (2, 1)), ((2, 0), (4, 1)))
MUSTS = Musts(FLAT, ("bad", ()))
WRONG_WORTHS = (None, True, 0, "", [], [((2, 2), (1, 1))], ((2, 2), (1, 1)), (((2, 2), (1, 1)), ((2, 2), (1, 1))), (((2, 0), (1, 1)), ((2, 2), (1, 1))),
                (((2, 0), (1, 1)), ((0, 2), (1, 1))), (((2, 2), (2, 2)),), (((2, 2), (0, 2)),), (((2, 2), 1),), (((2, 2), (1, 0)),), (((2, 2), (True, 1)),),
                (((2, 2), (1, True)),), (((2, 2), [1, 1]),), ([(2, 2), (1, 1)],), (((2, 2),),), (((2, 2), (1, 1), 0),), (((0, 0), (1, 1)),),
                (((8, 8), (1, 1)),), (((2, 2), None),), (("bar", (1, 1)),), (((6, 2), (1, 1)),)) + tuple(((p, (1, 1)),) for p in OFF_POINTS)
# For functions of musts: a point of generation deep, or above it.
DEEP_WORTHS = ((((1, 1), (1, 1)),), (((2, 2), (1, 1)), ((1, 2), (1, 1))))
WRONG_PRICES = WRONG_QUOTIENTS + ((-1, 1), (-1, 3), 0)


def draw_worths(rolls, points):
    """Worths of some of the points, in order: small and great ones, nought, quotients, below nought."""
    kind = rolls.randrange(6)
    worths = []
    for point in points:
        if rolls.randrange(5):
            top = rolls.randrange(-9, 12) if kind else rolls.choice((10 ** 39, -10 ** 40, 1, 0))
            worths.append((point, pair_of(Fraction(top, rolls.choice((1, 1, 2, 3, 7)) if kind > 2 else 1))))
    return tuple(worths)


def worth_oracle(worths, lot):
    """The worth of a lot, a fraction."""
    return sum((as_fraction(worth) for point, worth in worths if point in lot), Fraction(0))


def value_oracle(world, worths, price, lot):
    """The value of a lot at a price, a fraction."""
    return worth_oracle(worths, lot) - price * sum(len(world.ring[point]) for point in lot)


def free_oracle(known):
    """The free points, in order."""
    forced = known.forced()
    return tuple(p for p in known.points if p not in forced and BAR not in known.reached([p]))


def owns_oracle(known, worths, price, flow):
    """The own of each free point, as pairs with fractions."""
    rows = []
    for p in free_oracle(known):
        gained = sum(as_fraction(amount) for _, must, amount in flow if must == p)
        given = sum(as_fraction(amount) for point, _, amount in flow if point == p)
        rows.append((p, value_oracle(known.world, worths, price, (p,)) + gained - given))
    return rows


def markets(seed, many, most_points=9, passing=True):
    """Worlds with few points below a deep, with their musts, what is known, all lots that pass, and worths."""
    rolls, made = worlds(seed, many, 2, 1, 3)
    for world in made:
        frame = draw_frame(rolls, world, 40, named=False)
        names = draw_names(rolls, world, frame[1]) if rolls.randrange(3) == 0 else ()
        known = Known(world, frame[1], names)
        if len(known.points) <= most_points and (not passing or not known.refuses()):
            yield rolls, world, Musts(frame, ("bad", names)), known, known.passing(), draw_worths(rolls, known.points)


def draw_flow(rolls, known, most=5):
    """A flow that need not show anything."""
    free = free_oracle(known)
    pairs = [(p, must) for p in free for must in known.musts[p] if must in free]
    chosen = rolls.sample(pairs, min(len(pairs), rolls.randrange(most)))
    return tuple(sorted((p, must, pair_of(Fraction(rolls.randrange(1, 9), rolls.randrange(1, 4)))) for p, must in chosen))
