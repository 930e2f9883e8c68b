"""The errors that the program raises."""


class ArchiveError(ValueError):
    """The base class of all errors of the program."""


class InvalidText(ArchiveError):
    """A character or an octet stands for nothing that a text may contain."""


class InvalidNumber(ArchiveError):
    """An integer is too small or too great to be written."""


class NoSuchPath(ArchiveError):
    """A path leads to no place in a volume."""


class InvalidScript(ArchiveError):
    """An edit script does not fit a list."""


class NoSuchVersion(ArchiveError):
    """A history has no version with this number."""


class TooLong(ArchiveError):
    """An expansion has more octets than its limit."""


class InvalidSymbol(ArchiveError):
    """Something is no symbol, or symbols cannot be used in this way."""


class InvalidCode(ArchiveError):
    """A list of octets is no code of the machine."""


class InvalidFormat(ArchiveError):
    """There is no format with these measures."""


class InvalidLabel(ArchiveError):
    """Something is not the label of a page."""


class InvalidPage(ArchiveError):
    """Something does not have the form of a page."""


class InvalidBed(ArchiveError):
    """Something does not have the form of a bed."""


class DoesNotFit(ArchiveError):
    """A page does not fit on a bed."""


class InvalidArchive(ArchiveError):
    """There is no archive with these settings or parts."""


class TooManyPages(ArchiveError):
    """An archive has more slices or pages than can be numbered."""


class PrimerError(ArchiveError):
    """A text is not a primer."""


class NoSuchPart(ArchiveError):
    """A part of an archive is not there."""


class EncodingError(ArchiveError):
    """A list of octets cannot be read; position is the index that shows it."""

    def __init__(self, position):
        super().__init__(f"the octets cannot be read at {position}")
        self.position = position


class PackedError(ArchiveError):
    """A list of octets is no packed list; position is the index that shows it."""

    def __init__(self, position):
        super().__init__(f"the packed list cannot be read at {position}")
        self.position = position


class InvalidVolume(ArchiveError):
    """A volume has a fault; path leads to it."""

    def __init__(self, path):
        super().__init__(f"the volume has a fault at {path}")
        self.path = tuple(path)


class AssemblySyntaxError(ArchiveError):
    """A text cannot be assembled; line is the index of the line that shows it."""

    def __init__(self, line):
        super().__init__(f"line {line} cannot be assembled")
        self.line = line
