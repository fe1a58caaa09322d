"""Rows of texts: the fields in them, words and numbers, and the touches written so."""

from strokeguess.errors import NoText
from strokeguess.touches import is_touch

FIGURES = "0123456789"
MOST_FIGURES = 10


def rows_of(text):
    """List the rows of a text; what is no text is refused."""
    if not isinstance(text, str):
        raise NoText(0)
    return text.split("\n") if text else []


def row_of(fields):
    """Write fields as a row."""
    return " ".join([str(field) for field in fields])


def fields_of(row):
    """List the fields of a row, those that are numbers as numbers."""
    return [int(field) if _is_number(field) else field for field in row.split(" ")]


def touch_of(row):
    """Tell the touch that is written in a row, None where there is none."""
    touch = tuple(fields_of(row))
    return touch if is_touch(touch) else None


def _is_number(field):
    """Tell whether a field is a number as it is written here, in one way alone."""
    figures = field[1:] if field.startswith("-") else field
    if not 1 <= len(figures) <= MOST_FIGURES or not all([sign in FIGURES for sign in figures]):
        return False
    return figures[0] != "0" or field == "0"
