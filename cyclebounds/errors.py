"""The errors that the program raises."""


class Fault(ValueError):
    """The base class of all errors of the program."""


class Malformed(Fault):
    """An argument has not the form that is asked for."""


class Refused(Fault):
    """An argument has its form, but the program refuses it for a reason."""

    def __init__(self, reason):
        self.reason = reason


class NoText(Fault):
    """A text is not that of an object; the fault is at the place `at`."""

    def __init__(self, at):
        self.at = at
