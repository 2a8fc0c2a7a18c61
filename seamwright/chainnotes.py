"""Chains as texts, and back."""

from seamwright.chains import is_chain, must_be_chain
from seamwright.errors import NoNote
from seamwright.parts import in_order
from seamwright.webnotes import read_number, read_piece, shown_piece
from seamwright.webs import must_be_web

MOST_FIGURES = 30
BLOCK_FIGURES = 60


def shown_chain(web, chain):
    must_be_chain(web, chain)
    return " ".join([shown_term(piece, chain[piece]) for piece in in_order(list(chain))])


def shown_term(piece, weight):
    return shown_number(weight) + "*" + shown_piece(piece)


# A weight that was told may have any number of figures, and Python's str refuses more than
# some thousand; so the figures are written block by block.
def shown_number(number):
    block = 10 ** 60
    words = []
    left = abs(number)
    while left >= block:
        words.append(str(left % block).zfill(BLOCK_FIGURES))
        left = left // block
    words.append(str(left))
    words.append("-" if number < 0 else "")
    words.reverse()
    return "".join(words)


# A text writes a chain in one way alone, so it is right just if it is what would be written.
def read_chain(web, text):
    must_be_web(web)
    if text == "":
        return {}
    chain = {}
    for word in text.split(" "):
        halves = word.partition("*")
        chain[read_piece(halves[2])] = read_weight(halves[0])
    if not is_chain(web, chain):
        raise NoNote("this text writes no chain of the web")
    if shown_chain(web, chain) != text:
        raise NoNote("this text does not write its pieces in order, each once")
    return chain


def read_weight(word):
    if word.startswith("-"):
        return -read_number(word[1:], MOST_FIGURES)
    return read_number(word, MOST_FIGURES)
