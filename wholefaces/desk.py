"""The desk: wishes for a plan are told line by line, and questions about all that follows from them are answered."""

from wholefaces.answers import parted_by, standing_of
from wholefaces.beside import round_point
from wholefaces.bestlots import best_of
from wholefaces.blame import blame_of
from wholefaces.charts import BAR
from wholefaces.checks import demand
from wholefaces.counts import by_generation, many_of
from wholefaces.deskwords import read_line
from wholefaces.desklines import block_line, chain_lines, names_line, points_line, skin_line, stair_line, text_of
from wholefaces.desklines import walk_line
from wholefaces.errors import InvalidText, NoDeed, NotStanding, NotUsable, Refused
from wholefaces.forms import form_of
from wholefaces.frames import frame_of
from wholefaces.goodness import all_of
from wholefaces.integrals import total_of
from wholefaces.journals import Journal
from wholefaces.mustclasses import Musts
from wholefaces.plantexts import read_plan
from wholefaces.pointtexts import quotient_line
from wholefaces.skins import crossing_of, skin_of
from wholefaces.stairs import stairs_of
from wholefaces.walks import walk_of
from wholefaces.wishclasses import Wishes
from wholefaces.worths import block_worths


def do_wish(wishes, told):
    """Does to the wishes what a line with wish, change or drop tells."""
    if told[0] == "wish":
        wishes.wish(told[1], told[2])
    elif told[0] == "change":
        wishes.change(told[1], told[2])
    else:
        wishes.drop(told[1])


def wishes_of(plan):
    """The wishes of a plan."""
    wishes = Wishes(frame_of(plan))
    for name, test in plan[8]:
        wishes.wish(name, test)
    return wishes


class Desk:
    """A plan, the wishes that stand, and the lines that made them so."""

    def __init__(self, plan):
        demand(isinstance(plan, str), "plan")
        self._plan = read_plan(plan)
        self._frame = frame_of(self._plan)
        self._wishes = wishes_of(self._plan)
        self._kept = ()

    def ask(self, line):
        """The answer to a line."""
        told = read_line(self._plan, line)
        try:
            lines = self._answer(told, line)
        except NotUsable:
            lines = ["no: NotUsable"]
        except NotStanding:
            lines = ["no: NotStanding"]
        except NoDeed:
            lines = ["no: NoDeed"]
        except Refused:
            lines = ["no: Refused"]
        return text_of(lines)

    def _answer(self, told, line):
        """The lines of the answer to a line that tells this."""
        word = told[0]
        if word in ("wish", "change", "drop"):
            do_wish(self._wishes, told)
            self._kept = self._kept + (line,)
            return self._agreed()
        if word == "undo":
            return self._undo()
        if word == "save":
            return list(self._kept)
        if word in ("why", "chain", "blame", "implies"):
            return self._reasons_for(told)
        if word in ("best", "stairs"):
            return self._choices_for(told)
        return self._mesh_lines(told)

    def _agreed(self):
        """The line behind a change."""
        return [f"yes: {len(self._wishes.mesh())}"]

    def _undo(self):
        """Takes the line kept last away, and makes all as if it had not come."""
        if len(self._kept) == 0:
            raise NoDeed(len(self._kept))
        wishes = wishes_of(self._plan)
        for line in self._kept[:-1]:
            do_wish(wishes, read_line(self._plan, line))
        self._wishes = wishes
        self._kept = self._kept[:-1]
        return self._agreed()

    def _tests(self):
        """The tests of the wishes that stand, by their names."""
        return tuple([self._wishes.test_of(name) for name in self._wishes.names()])

    def _all_musts(self):
        """The musts of all wishes that stand."""
        return Musts(self._frame, all_of(self._tests()))

    def _reasons_for(self, told):
        """The answer to a question about what forces something."""
        if told[0] == "why":
            lines = chain_lines(self._all_musts(), told[1])
            return [standing_of(self._all_musts(), told[1])] if lines is None else lines
        if told[0] == "chain":
            lines = chain_lines(Musts(self._frame, all_of(self._tests_with(told[1], told[2]))), BAR)
            return [] if lines is None else lines
        if told[0] == "blame":
            names = self._wishes.names()
            rows = blame_of(self._frame, self._tests(), told[1])
            return [" ".join([names[place] for place in row]) for row in rows]
        one, other = self._wishes.test_of(told[1]), self._wishes.test_of(told[2])
        lot = parted_by(Musts(self._frame, one), Musts(self._frame, other))
        return ["yes"] if lot is None else ["parted", points_line(self._frame[0][0], lot)]

    def _tests_with(self, name, test):
        """The tests, if a wish had come with this name and test, or, standing, changed to it."""
        names = self._wishes.names()
        if name not in names:
            return self._tests() + (test,)
        return tuple([test if one == name else self._wishes.test_of(one) for one in names])

    def _choices_for(self, told):
        """The answer to a question about a worth."""
        solid = self._frame[0]
        sums = {name: parts for name, parts in self._plan[7]}
        worths = block_worths(self._frame, sums[told[1]])
        if told[0] == "stairs":
            steps = stairs_of(self._all_musts(), worths)
            return [stair_line(price, end, many_of(solid, lot)) for price, end, lot in steps]
        least, greatest, value, _ = best_of(self._all_musts(), worths, (told[2], 1))
        return [quotient_line(value), points_line(solid[0], least), points_line(solid[0], greatest)]

    def _mesh_lines(self, told):
        """The answer to a question about the mesh."""
        word, mesh, fields = told[0], self._wishes.mesh(), self._frame[3]
        space = self._frame[0][0]
        if word == "form":
            return form_of(mesh).split("\n")[:-1]
        if word == "mesh":
            return [" ".join([str(many) for many in by_generation(mesh)])]
        if word == "blocks":
            return [block_line(space, name, block) for name, block in zip(mesh.block_names(), mesh.blocks())]
        if word == "corner":
            return [names_line(round_point(mesh, told[1]))]
        if word == "total":
            return [quotient_line(total_of(mesh, fields, told[1]))]
        if word == "walk":
            parts = walk_of(mesh, told[1] + (1,), told[2] + (1,))
            return [walk_line(space, first, last, corners) for first, last, corners in parts]
        lines = []
        for name, row in skin_of(mesh, fields, told[1], told[2]):
            crossings = [crossing_of(space, fields, told[1], told[2], inner, outer) for inner, outer in row]
            lines.append(skin_line(space, name, crossings))
        return lines


def desk_of(plan, journal):
    """A desk of the plan that was asked the lines of the journal."""
    demand(isinstance(plan, str), "plan")
    demand(isinstance(journal, Journal), "journal")
    desk = Desk(plan)
    for k, line in enumerate(journal.lines()):
        try:
            desk.ask(line)
        except InvalidText as wrong:
            raise InvalidText(k, wrong.at) from None
    return desk
