"""Events and logs as lines of text."""

from wheelwritten.benchevents import is_event, is_log
from wheelwritten.boardlines import board_line
from wheelwritten.usable import need


def event_line(event):
    """The line of the event."""
    need(is_event(event), "event")
    words = [event[0]]
    for value in event[1:]:
        if value is None:
            words.append("-")
        elif isinstance(value, tuple):
            words.extend([str(lift) for lift in value])
        else:
            words.append(str(value))
    return " ".join(words)


def log_lines(log):
    """The tuple of the lines of the board and of all events."""
    need(is_log(log), "log")
    board, events = log
    return tuple([board_line(board)] + [event_line(event) for event in events])
