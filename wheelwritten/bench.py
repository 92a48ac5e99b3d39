"""A numbering that changes event by event."""

from wheelwritten.benchsteps import after_event, event_reason
from wheelwritten.errors import InvalidEvent, NothingToUndo
from wheelwritten.faults import need_numbering
from wheelwritten.kinds import is_number
from wheelwritten.lots import lot_of
from wheelwritten.reaching import depth_of, reach_of
from wheelwritten.usable import need


class Bench:
    """The numbering at first, all events done, and the numberings behind them."""

    def __init__(self, board):
        need_numbering(board)
        self._boards = (board,)
        self._events = ()

    def told_now(self):
        """The numbering now."""
        return self._boards[-1]

    def depth_now(self):
        """Its depth."""
        return depth_of(self.told_now())

    def lot_now(self):
        """Its lot."""
        return lot_of(self.told_now())

    def reach_now(self):
        """Its reach."""
        return reach_of(self.told_now())

    def how_many_done(self):
        """How many events are done."""
        return len(self._events)

    def most_now(self):
        """The number, or None, of the last "most" that is done, None if none is."""
        for event in reversed(self._events):
            if event[0] == "most":
                return event[1]
        return None

    def log_now(self):
        """The log of the board at first and all events done."""
        return self._boards[0], self._events

    def _is_deep(self, event):
        """Whether the depth would be greater than is allowed, by an event that could happen else."""
        if event[0] == "most":
            return event[1] is not None and event[1] < self.depth_now()
        most = self.most_now()
        return most is not None and depth_of(after_event(self.told_now(), event)) > most

    def _reason(self, event):
        """The word that tells why the event, any value, cannot happen now; None if it can."""
        reason = event_reason(self.told_now(), event)
        if reason is None and self._is_deep(event):
            return "deep"
        return reason

    def tried(self, event):
        """The numbering behind the event, which does not happen, else InvalidEvent."""
        reason = self._reason(event)
        if reason is not None:
            raise InvalidEvent(event, reason)
        return after_event(self.told_now(), event)

    def go(self, event):
        """Let the event happen; returns the numbering behind it. Else InvalidEvent."""
        after = self.tried(event)
        self._boards = self._boards + (after,)
        self._events = self._events + (event,)
        return after

    def barred(self, events):
        """The tuple of the reasons why each of the events, asked alone, cannot happen now; None for what can."""
        need(isinstance(events, tuple), "events")
        return tuple([self._reason(event) for event in events])

    def _keep_first(self, done):
        """Forget all events but the first ones, so many."""
        self._boards = self._boards[:done + 1]
        self._events = self._events[:done]

    def undo(self, times=1):
        """Undo the last so many events; returns the numbering then. NothingToUndo if fewer are done."""
        need(is_number(times), "times")
        done = self.how_many_done()
        if times > done:
            raise NothingToUndo(done)
        self._keep_first(done - times)
        return self.told_now()

    def do_all(self, events, keep=False):
        """Let the events happen; returns the numbering then.

        InvalidEvent for the first that cannot happen; those ahead of it remain done only if keep is True.
        """
        need(isinstance(events, tuple), "events")
        need(isinstance(keep, bool), "keep")
        done = self.how_many_done()
        for event in events:
            reason = self._reason(event)
            if reason is not None:
                if not keep:
                    self._keep_first(done)
                raise InvalidEvent(event, reason)
            self.go(event)
        return self.told_now()
