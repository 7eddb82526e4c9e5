"""Errors: every failure of the system is a HostError, which is a ValueError."""


class HostError(ValueError):
    """The base of all errors of this package."""


class DeviceError(HostError):
    """The device has crashed, or a block does not exist."""


class JournalError(HostError):
    """The journal's blocks are invalid, or a group is too large for it."""


class FileError(HostError):
    """A file operation fails; its word tells why."""

    def __init__(self, word):
        super().__init__(word)
        self.word = word


class CheckError(HostError):
    """The file system is out of order."""


class PipeError(HostError):
    """A pipe is used in a way that does not fit."""


class ProcessError(HostError):
    """A process does not exist, or a call does not fit its state."""


class SpaceFault(HostError):
    """An address is not mapped, or memory is used up."""


class CodeError(HostError):
    """A program's text or code is invalid."""


class ShellError(HostError):
    """A script is invalid."""


class StuckError(HostError):
    """No process can go on."""
