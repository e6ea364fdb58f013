"""Plans read from texts and written as texts."""

from wholefaces.checks import demand
from wholefaces.cursors import Cursor, take_bounded
from wholefaces.errors import InvalidText
from wholefaces.exprtexts import expression_words, take_expression
from wholefaces.regiontexts import region_words, take_region
from wholefaces.testtexts import sum_words, take_sum, take_test, test_words
from wholefaces.treekinds import MOST_ROUNDS, is_plan, most_cubes
from wholefaces.treeparts import names_in
from wholefaces.wordnames import is_word_name

NUMBER_LINES = ("space", "rounds", "cubes", "deep")
NAMED_LINES = ("field", "worth", "wish")


class Draft:
    """A plan that is being read, line by line."""

    def __init__(self):
        self.numbers = []
        self.regions = ()
        self.region = None
        self.fields = ()
        self.worths = ()
        self.wishes = ()

    def names(self):
        """All names of the lines so far."""
        return names_in(self.regions + self.fields + self.worths + self.wishes)

    def read_line(self, cursor):
        """Reads the next line that is not of blanks."""
        if len(self.numbers) < len(NUMBER_LINES):
            self.read_number(cursor)
        elif self.region is None:
            self.read_region_line(cursor)
        else:
            self.read_named(cursor)
        cursor.finish()

    def read_number(self, cursor):
        """Reads a line with the number that is due."""
        word = cursor.take((NUMBER_LINES[len(self.numbers)],))
        low, high = 0, MOST_ROUNDS
        if word == "space":
            low, high = 2, 3
        elif word == "cubes":
            low, high = 1, most_cubes(self.numbers[0])
        elif word == "deep":
            high = self.numbers[0] * self.numbers[1]
        self.numbers.append(take_bounded(cursor, low, high))

    def read_region_line(self, cursor):
        """Reads a line of a region, or that of the solid."""
        word = cursor.take(("region", "solid"))
        name = self.take_new_name(cursor, "=") if word == "region" else None
        region = take_region(cursor, self.numbers[0], names_in(self.regions))
        if name is None:
            self.region = region
        else:
            self.regions = self.regions + ((name, region),)

    def read_named(self, cursor):
        """Reads a line of a field, a worth or a wish: none of an earlier kind than the line ahead."""
        dims, regions, fields = self.numbers[0], names_in(self.regions), names_in(self.fields)
        word = cursor.take(NAMED_LINES[self.kinds_done():])
        name = self.take_new_name(cursor, ":" if word == "wish" else "=")
        if word == "field":
            self.fields = self.fields + ((name, take_expression(cursor, dims, fields)),)
        elif word == "worth":
            self.worths = self.worths + ((name, take_sum(cursor, dims, fields)),)
        else:
            self.wishes = self.wishes + ((name, take_test(cursor, dims, regions, fields)),)

    def kinds_done(self):
        """How many kinds of NAMED_LINES cannot come any more."""
        if len(self.wishes) > 0:
            return 2
        return 1 if len(self.worths) > 0 else 0

    def take_new_name(self, cursor, mark):
        """Takes a NAME that no line ahead has, and the mark behind it."""
        name = cursor.now()
        if not is_word_name(name) or name in self.names():
            cursor.fail()
        cursor.step()
        cursor.take((mark,))
        return name

    def plan(self):
        """The plan that has been read, None if lines lack."""
        if self.region is None:
            return None
        return tuple(self.numbers) + (self.regions, self.region, self.fields, self.worths, self.wishes)


def read_plan(text):
    """The plan that the text tells."""
    demand(isinstance(text, str), "text")
    lines = text.split("\n")
    draft = Draft()
    for k, line in enumerate(lines):
        if line.strip(" ") != "":
            draft.read_line(Cursor(line, k))
    plan = draft.plan()
    if plan is None:
        raise InvalidText(len(lines), 0)
    return plan


def named_lines(word, mark, named, line_of):
    """The lines of the pairs (name, tree), each behind this word."""
    return [f"{word} {name} {mark} {line_of(tree)}" for name, tree in named]


def plan_text(plan):
    """The text of a plan."""
    demand(is_plan(plan), "plan")
    lines = [f"{word} {number}" for word, number in zip(NUMBER_LINES, plan[:4])]
    regions, region, fields, worths, wishes = plan[4:]
    lines.extend(named_lines("region", "=", regions, region_words))
    lines.append(f"solid {region_words(region)}")
    lines.extend(named_lines("field", "=", fields, expression_words))
    lines.extend(named_lines("worth", "=", worths, sum_words))
    lines.extend(named_lines("wish", ":", wishes, test_words))
    return "".join([line + "\n" for line in lines])
