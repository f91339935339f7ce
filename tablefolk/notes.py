"""Notes: a table written as a text, and read from it."""

from tablefolk.errors import NoNote, NoTable
from tablefolk.folks import MOST_ROWS, ask_table


def shown(table):
    ask_table(table)
    return "/".join([shown_row(row) for row in table])


def read(text):
    table = [read_row(row) for row in text.split("/")]
    try:
        ask_table(table)
    except NoTable:
        raise NoNote("the rows that are written are no table's") from None
    return table


def shown_row(row):
    return " ".join([str(number) for number in row])


def read_row(text):
    return [read_number(figures) for figures in text.split(" ")]


def read_number(figures):
    # Looked up, not worked out: a number has one way to be written, and `int` would take noughts, signs and blanks.
    written = [str(number) for number in range(MOST_ROWS)]
    if figures not in written:
        raise NoNote("a number is written by its figures alone, and is below 12")
    return written.index(figures)
