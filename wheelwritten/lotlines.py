"""Lots and orders as lines of text."""

from wheelwritten.boardlines import integer_in, wheel_in
from wheelwritten.errors import InvalidRow, InvalidText
from wheelwritten.lots import is_lot
from wheelwritten.orders import is_order
from wheelwritten.usable import need


def lot_line(wheel, lot):
    """The line of the lot."""
    need(is_lot(wheel, lot), "lot")
    return " ".join(["lot", f"{wheel}:"] + [str(member) for member in lot])


def read_lot(text):
    """The pair of wheel and lot with this line, else InvalidText for the first wrong field, or InvalidRow."""
    need(isinstance(text, str), "text")
    fields = text.split(" ")
    wheel = wheel_in(fields, "lot")
    members = []
    for k in range(2, len(fields)):
        member = integer_in(fields[k])
        if member is None:
            raise InvalidText(0, k)
        members.append(member)
    lot = tuple(members)
    if not is_lot(wheel, lot):
        raise InvalidRow(lot)
    return wheel, lot


def _dial_line(dial, row):
    """The field of a dial with the set of the dials below it."""
    words = [str(lower) for lower in row]
    if words == []:
        words = ["-"]
    return " ".join([f"{dial}:"] + words)


def order_line(size, order):
    """The line of the order."""
    need(is_order(size, order), "order")
    if size == 0:
        return "-"
    return "; ".join([_dial_line(dial, row) for dial, row in enumerate(order)])


def _row_in(dial, field):
    """The tuple of the dials that the field of the dial tells, None if it is not of the form."""
    words = field.split(" ")
    if words[0] != f"{dial}:" or len(words) < 2:
        return None
    if words[1:] == ["-"]:
        return ()
    row = [integer_in(word) for word in words[1:]]
    if None in row:
        return None
    return tuple(row)


def read_order(text):
    """The order with this line, else InvalidText for the first wrong field, or InvalidRow."""
    need(isinstance(text, str), "text")
    if text == "-":
        return ()
    rows = []
    for k, field in enumerate(text.split("; ")):
        row = _row_in(k, field)
        if row is None:
            raise InvalidText(0, k)
        rows.append(row)
    order = tuple(rows)
    if not is_order(len(order), order):
        raise InvalidRow(order)
    return order
