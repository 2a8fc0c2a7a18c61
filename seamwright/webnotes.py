"""Webs as texts, and back."""

from seamwright.errors import NoNote
from seamwright.webs import greatest, is_web

FIGURES = "0123456789"
MOST_FIGURES = 2


def shown(web):
    return " ".join([shown_piece(piece) for piece in greatest(web)])


def shown_piece(piece):
    return "-".join([str(point) for point in piece])


# A text writes a web in one way alone, so it is right just if it is what would be written.
def read(text):
    if text == "":
        return []
    web = [read_piece(word) for word in text.split(" ")]
    if not is_web(web):
        raise NoNote("this text writes no web")
    if shown(web) != text:
        raise NoNote("this text does not write the greatest pieces in order")
    return web


# The points need not be those of a piece.
def read_piece(word):
    return tuple([read_point(figures) for figures in word.split("-")])


def read_point(figures):
    return read_number(figures, MOST_FIGURES)


# Python's int takes other signs too, and fails in its own way at some thousand figures; so all
# is looked at ahead of it.
def read_number(figures, most):
    if not 1 <= len(figures) <= most:
        raise NoNote("a number has no figures, or too many")
    if not all([sign in FIGURES for sign in figures]):
        raise NoNote("a number is written by figures")
    if len(figures) > 1 and figures[0] == "0":
        raise NoNote("a number has no nought ahead")
    return int(figures)
