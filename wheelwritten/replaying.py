"""Logs replayed on a bench."""

from wheelwritten.bench import Bench
from wheelwritten.benchevents import is_log
from wheelwritten.usable import need


def replayed(log):
    """A Bench of the log's board on which its events have happened, else NoNumbering or InvalidEvent."""
    need(is_log(log), "log")
    board, events = log
    bench = Bench(board)
    bench.do_all(events)
    return bench
