"""The errors of the package, and the copies that its objects keep."""


def copied(value):
    """Returns an equal value that shares no list and no dict with this one."""
    if isinstance(value, list):
        return [copied(item) for item in value]
    if isinstance(value, tuple):
        return tuple([copied(item) for item in value])
    if isinstance(value, dict):
        return {key: copied(value[key]) for key in value}
    return value


class LaidsheetsError(ValueError):
    """What all errors of the package derive from."""


class InvalidEvent(LaidsheetsError):
    """An event that cannot be made, whatever was read and said before."""

    def __init__(self, event):
        super().__init__(f"not a valid event: {event!r}")
        self.event = copied(event)


class Refused(LaidsheetsError):
    """An event behind which no order is left; its jam shows that."""

    def __init__(self, jam):
        super().__init__(f"no order is left, by this jam: {jam!r}")
        self.jam = copied(jam)
