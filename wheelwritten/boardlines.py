"""Boards and settings as lines of text."""

from wheelwritten.errors import InvalidText
from wheelwritten.kinds import is_dial, is_less, is_setting
from wheelwritten.usable import need

DIGITS = "0123456789"


def integer_in(word):
    """The number written by word in decimal digits without needless zeros, else None."""
    if word == "" or not all([letter in DIGITS for letter in word]):
        return None
    if word[0] == "0" and word != "0":
        return None
    return int(word)


def board_line(board):
    """The line of the board."""
    wheel, dials = board
    fields = ["wheel", f"{wheel}:"]
    for many, weight in dials:
        fields.append(f"{many}@{weight}")
    return " ".join(fields)


def wheel_in(fields, word):
    """The wheel that the first two fields tell, the word and the wheel with a colon. Else InvalidText."""
    if fields[0] != word:
        raise InvalidText(0, 0)
    if len(fields) < 2 or not fields[1].endswith(":"):
        raise InvalidText(0, 1)
    wheel = integer_in(fields[1][:-1])
    if wheel is None or wheel == 0:
        raise InvalidText(0, 1)
    return wheel


def _dial_in(wheel, word):
    """The dial of the wheel that word tells, None if it tells none."""
    parts = word.split("@")
    if len(parts) != 2:
        return None
    dial = (integer_in(parts[0]), integer_in(parts[1]))
    if not is_dial(wheel, dial):
        return None
    return dial


def read_board(text):
    """The board with this line, else InvalidText for the first wrong field."""
    need(isinstance(text, str), "text")
    fields = text.split(" ")
    wheel = wheel_in(fields, "wheel")
    dials = []
    for k in range(2, len(fields)):
        dial = _dial_in(wheel, fields[k])
        if dial is None:
            raise InvalidText(0, k)
        dials.append(dial)
    return wheel, tuple(dials)


def setting_line(board, setting):
    """The line of the setting."""
    need(is_setting(board, setting), "setting")
    if setting == ():
        return "-"
    return " ".join([str(figure) for figure in setting])


def _read_no_figures(fields):
    """The setting () if the one field is "-", else InvalidText."""
    if fields[0] != "-":
        raise InvalidText(0, 0)
    if len(fields) > 1:
        raise InvalidText(0, 1)
    return ()


def read_setting(board, text):
    """The setting of the board with this line, else InvalidText for the first wrong field."""
    need(isinstance(text, str), "text")
    fields = text.split(" ")
    dials = board[1]
    if dials == ():
        return _read_no_figures(fields)
    figures = []
    for k, dial in enumerate(dials):
        if k >= len(fields):
            raise InvalidText(0, k)
        figure = integer_in(fields[k])
        if not is_less(dial[0], figure):
            raise InvalidText(0, k)
        figures.append(figure)
    if len(fields) > len(dials):
        raise InvalidText(0, len(dials))
    return tuple(figures)
