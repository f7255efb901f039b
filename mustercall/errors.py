"""The errors that the program raises (point 102)."""


class MusterError(ValueError):
    """The base of all errors of the program."""


class BadText(MusterError):
    """A value is not plain, or a text is not canonical."""


class BadPayload(MusterError):
    """A value is not a payload."""


class BadLetter(MusterError):
    """A value is not a letter to this receiver."""


class BadMember(MusterError):
    """A member cannot be created with these arguments."""


class BadView(MusterError):
    """A view, its members or its logs do not fit together."""


class DiskError(MusterError):
    """An argument for a disk is invalid."""


class DiskCrashed(MusterError):
    """The disk has crashed."""


class BadSchedule(MusterError):
    """A schedule is wrong in a line, or an act is not possible (line 0)."""

    def __init__(self, line, reason):
        self.line = line
        self.reason = reason
