"""Point 4 and the errors of the interface."""

from scanpages import errors
from scanpages.errors import ArchiveError, AssemblySyntaxError, EncodingError, InvalidVolume, PackedError
from tests.support import ProgramTest

NAMES = """InvalidText InvalidNumber NoSuchPath InvalidScript NoSuchVersion TooLong InvalidSymbol InvalidCode
    InvalidFormat InvalidLabel InvalidPage InvalidBed DoesNotFit InvalidArchive TooManyPages PrimerError
    NoSuchPart EncodingError PackedError InvalidVolume AssemblySyntaxError""".split()


class ErrorsTest(ProgramTest):

    def test_the_base_stands_below_value_error(self):
        self.assertEqual((ValueError,), ArchiveError.__bases__)

    def test_each_error_stands_directly_below_the_base(self):
        for name in NAMES:
            with self.subTest(name=name):
                self.assertEqual((ArchiveError,), getattr(errors, name).__bases__)

    def test_there_are_no_other_errors(self):
        found = [name for name, value in vars(errors).items() if isinstance(value, type)]
        self.assertEqual(sorted([*NAMES, "ArchiveError"]), sorted(found))

    def test_attributes(self):
        self.assertEqual(7, EncodingError(7).position)
        self.assertEqual(8, PackedError(8).position)
        self.assertEqual(("a", "b"), InvalidVolume(("a", "b")).path)
        self.assertEqual(9, AssemblySyntaxError(9).line)

    def test_messages_are_strings(self):
        for error in (EncodingError(7), PackedError(8), InvalidVolume(()), AssemblySyntaxError(9)):
            self.assertNotEqual("", str(error))
