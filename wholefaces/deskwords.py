"""The lines that a desk is asked, read as tuples."""

from wholefaces.checks import demand
from wholefaces.cursors import Cursor, is_numeral, take_integer, take_point
from wholefaces.journals import is_line
from wholefaces.testtexts import take_test
from wholefaces.treekinds import is_plan
from wholefaces.treeparts import names_in
from wholefaces.wordnames import is_word_name

TEST_WORDS = ("wish", "change", "chain")
POINT_WORDS = ("corner", "why", "blame")
SINGLE_WORDS = ("mesh", "blocks", "form", "save", "undo")
OTHER_WORDS = ("drop", "implies", "walk", "total", "skin", "best", "stairs")


def take_name(cursor):
    """Takes a NAME, any word name."""
    if not is_word_name(cursor.now()):
        cursor.fail()
    return cursor.step()


def take_number(cursor):
    """Takes a NUMBER, which is returned."""
    if not is_numeral(cursor.now()):
        cursor.fail()
    return int(cursor.step())


def take_named_test(cursor, plan):
    """Takes NAME : TEST, which are returned."""
    name = take_name(cursor)
    cursor.take((":",))
    return name, take_test(cursor, plan[0], names_in(plan[4]), names_in(plan[6]))


def take_told(cursor, plan, word):
    """Takes what stands behind the first word of a line, which is returned as a tuple."""
    dims, fields, worths = plan[0], names_in(plan[6]), names_in(plan[7])
    if word in TEST_WORDS:
        return take_named_test(cursor, plan)
    if word == "drop":
        return (take_name(cursor),)
    if word == "implies":
        return take_name(cursor), take_name(cursor)
    if word in POINT_WORDS:
        return (take_point(cursor, dims, None),)
    if word == "walk":
        return take_point(cursor, dims, None), take_point(cursor, dims, None)
    if word == "total":
        return (cursor.take(fields),)
    if word == "skin":
        return cursor.take(fields), take_integer(cursor, None, 1)
    if word == "best":
        return cursor.take(worths), take_number(cursor)
    if word == "stairs":
        return (cursor.take(worths),)
    return ()


def read_line(plan, line):
    """What the line asks of a desk of the plan: the first word, then each name, test, point, integer."""
    demand(is_plan(plan), "plan")
    demand(is_line(line), "line")
    cursor = Cursor(line, 0)
    word = cursor.take(TEST_WORDS + POINT_WORDS + SINGLE_WORDS + OTHER_WORDS)
    told = (word,) + take_told(cursor, plan, word)
    cursor.finish()
    return told
