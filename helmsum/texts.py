"""Texts: numbers, rows and systems written, and read again from just what is written so."""

from helmsum.errors import NoText
from helmsum.grids import cut, flat
from helmsum.ratios import common_divisor
from helmsum.systems import MOST_LOOKS, MOST_PUTS, MOST_STATES, System

FIGURES = "0123456789"


def words_in(text):
    """The words of a text, parted by single blanks; NoText where it, whatever it is, is no text."""
    if not isinstance(text, str):
        raise NoText()
    return text.split(" ")


def read_whole(text):
    """The whole number, from 0 on, that the figures of the text write."""
    if text == "" or not all([sign in FIGURES for sign in text]):
        raise NoText()
    if text.startswith("0") and text != "0":
        raise NoText()
    whole = 0
    for sign in text:
        whole = whole * 10 + FIGURES.index(sign)
    return whole


def read_top(text):
    """The whole number that the text writes, with - ahead where it is below nought."""
    if not text.startswith("-"):
        return read_whole(text)
    top = -read_whole(text[1:])
    if top == 0:
        raise NoText()
    return top


def show_number(number):
    """The number as text: its top, and where its bottom isn't 1 that behind a stroke."""
    top = str(number[0])
    if number[1] == 1:
        return top
    return top + "/" + str(number[1])


def read_number(text):
    """The number that just this text writes; else NoText, whatever is handed in."""
    if not isinstance(text, str):
        raise NoText()
    parts = text.partition("/")
    top = read_top(parts[0])
    if parts[1] == "":
        return (top, 1)
    bottom = read_whole(parts[2])
    if bottom < 2 or common_divisor(top, bottom) != 1:
        raise NoText()
    return (top, bottom)


def show_row(row):
    """The numbers of the row with single blanks between."""
    return " ".join([show_number(number) for number in row])


def read_row(text):
    """The row that just this text writes; else NoText, whatever is handed in."""
    words = words_in(text)
    # The text of a row of none has one word, without signs.
    if words == [""]:
        return []
    return [read_number(word) for word in words]


def show_system(system):
    """The sizes of the system and, each behind its word, the numbers of its move, put and look."""
    words = [str(system.states), str(system.ins), str(system.outs)]
    for word, rows in [("move", system.move), ("put", system.put), ("look", system.look)]:
        words.append(word)
        words.extend([show_number(number) for number in flat(rows)])
    return " ".join(words)


def read_size(word, most):
    """The whole number from 0 to most that the word writes."""
    size = read_whole(word)
    if size > most:
        raise NoText()
    return size


def read_rows(words, name, many, wide):
    """So many rows, wide numbers in each, that the words write behind their name."""
    if words[0] != name:
        raise NoText()
    return cut([read_number(word) for word in words[1:]], many, wide)


def read_system(text):
    """The System that just this text writes; else NoText, whatever is handed in."""
    words = words_in(text)
    if len(words) < 3:
        raise NoText()
    wide = read_size(words[0], MOST_STATES)
    ins = read_size(words[1], MOST_PUTS)
    outs = read_size(words[2], MOST_LOOKS)
    put_at = 4 + wide * wide
    look_at = put_at + 1 + ins * wide
    if len(words) != look_at + 1 + outs * wide:
        raise NoText()
    move = read_rows(words[3:put_at], "move", wide, wide)
    put = read_rows(words[put_at:look_at], "put", ins, wide)
    return System(move, put, read_rows(words[look_at:], "look", outs, wide))
