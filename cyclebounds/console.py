"""Consoles, which keep definitions and entries (point 12.4)."""

from cyclebounds.errors import Refused
from cyclebounds.log import write_log
from cyclebounds.replies import defined, reply_to


class Console:
    """A console: lines are entered, and each has its reply over what the earlier ones defined."""

    def __init__(self, *, most=300):
        self.most = most
        self.entries = []
        self.held = {}

    def enter(self, line):
        """Enter a line and return the reply."""
        if len(self.entries) >= self.most:
            raise Refused("lines")
        reply = reply_to(self.held, line)
        found = defined(self.held, line)
        self.entries.append((line, reply))
        if found is not None:
            name, thing = found
            self.held[name] = thing
        return reply

    def __len__(self):
        return len(self.entries)

    def __iter__(self):
        return iter(self.entries)

    def names(self):
        """Return a new dict from the defined names to their complexes and chain maps."""
        return dict(self.held)

    def log(self):
        """Return the written form of the entries."""
        return write_log(self.entries)
