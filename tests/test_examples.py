"""The examples of the interface, each with the value or the error that the document gives."""

import unittest

from scanpages.assembly import assemble, disassemble
from scanpages.codecs import stored
from scanpages.coding import corrected, encode
from scanpages.compression import expand
from scanpages.encoding import decode_volume, encode_volume
from scanpages.edits import diff, normalized, patch
from scanpages.errors import AssemblySyntaxError, EncodingError, PackedError
from scanpages.field import multiply
from scanpages.formats import Format
from scanpages.joining import joined_lists
from scanpages.machine import run
from scanpages.merging import merged
from scanpages.octets import number_octets, octets_text, read_number
from scanpages.polynomials import divide, interpolate, multiply_polynomials
from scanpages.primer import read_primer, write_primer
from scanpages.turns import combined, opposite, turned
from scanpages.versions import History, decode_history, encode_history
from scanpages.volumes import gathered, removed, volume_fault


class ExamplesTest(unittest.TestCase):

    def test_octets(self):
        self.assertEqual([172, 2], number_octets(300))
        self.assertEqual((300, 3), read_number([7, 172, 2, 9], 1))
        with self.assertRaises(EncodingError) as caught:
            read_number([128, 0], 0)
        self.assertEqual(1, caught.exception.position)
        self.assertEqual("Hi\n", octets_text([72, 105, 10]))

    def test_volumes(self):
        volume = ("folder", (("a", ("text", "x")), ("b", ("table", ("k",), (("v", "w"),)))))
        self.assertEqual(("b",), volume_fault(volume))
        volume = ("folder", (("a", ("text", "x")), ("b", ("text", "y"))))
        self.assertEqual(("folder", (("b", ("text", "y")),)), removed(volume, ("a",)))
        expected = ("folder", (("a", ("text", "x")), ("b", ("folder", (("c", ("text", "y")),)))))
        self.assertEqual(expected, gathered([(("b", "c"), ("text", "y")), (("a",), ("text", "x"))]))

    def test_encoding(self):
        self.assertEqual([3, 1, 1, 97, 1, 2, 104, 105], encode_volume(("folder", (("a", ("text", "hi")),))))
        with self.assertRaises(EncodingError) as caught:
            decode_volume([3, 2, 1, 98, 1, 0, 1, 97, 1, 0])
        self.assertEqual(6, caught.exception.position)

    def test_edits(self):
        self.assertEqual([5, 1, 2, 8], patch([5, 6, 7, 8], [("keep", 1), ("drop", 2), ("add", (1, 2)), ("keep", 1)]))
        self.assertEqual([("drop", 1), ("add", (1, 2)), ("keep", 2)],
                         normalized([("add", (1,)), ("drop", 1), ("add", (2,)), ("keep", 1), ("keep", 1)]))
        self.assertEqual([("keep", 1), ("drop", 1), ("keep", 1), ("add", (4,))], diff([1, 2, 3], [1, 3, 4]))

    def test_versions(self):
        history = History([1, 2])
        history.record([1, 2, 3])
        self.assertEqual((2, [1, 2, 3], [2, 2, 1, 2, 2, 0, 2, 2, 1, 3]),
                         (len(history), history.version(1), encode_history(history)))
        with self.assertRaises(EncodingError) as caught:
            decode_history([2, 1, 7, 1, 2, 1, 9])
        self.assertEqual(7, caught.exception.position)

    def test_compression(self):
        self.assertEqual([7, 8, 7, 8, 7, 8, 7, 9], expand([1, 7, 8, 130, 2, 0, 9], 100))
        with self.assertRaises(PackedError) as caught:
            expand([0, 7, 128, 2], 100)
        self.assertEqual(3, caught.exception.position)

    def test_machine(self):
        result = run([7, 0, 3, 8, 0, 0, 10, 0, 0, 0, 0, 0], [5, 6], 100)
        self.assertEqual(("done", (5, 6), 8), (result.word, result.output, result.steps))

    def test_assembly(self):
        self.assertEqual([7, 0, 3, 8, 0, 0, 10, 0, 0, 0, 0, 0],
                         assemble("again: \n  read 0 end\nwrite 0\njump again\nend:\nhalt\n"))
        self.assertEqual("L0:\nread 0 L2\njump L0\nL2:\nhalt\n", disassemble([7, 0, 2, 10, 0, 0, 0, 0, 0]))
        with self.assertRaises(AssemblySyntaxError) as caught:
            assemble("set 8 1\nhalt\n")
        self.assertEqual(0, caught.exception.line)

    def test_field(self):
        self.assertEqual((1, 6, 10), (multiply(9, 2), multiply(7, 7), multiply(15, 15)))

    def test_polynomials(self):
        self.assertEqual(([2, 3, 1], ([2, 1], [])), (multiply_polynomials([1, 1], [2, 1]), divide([2, 3, 1], [1, 1])))
        self.assertEqual([5], interpolate([(1, 5), (2, 5)]))

    def test_coding(self):
        self.assertEqual([3, 3, 3, 3, 3], encode([3, 3], 5))
        self.assertEqual(([3, 3, 3, 3, 3], None), (corrected([3, 9, 3, 3, None], 2), corrected([3, 9, 3, None, None], 2)))

    def test_formats(self):
        self.assertEqual((4, 36, 13), (Format(20, 4).codewords, Format(20, 4).body_size, Format(20, 4).capacity))

    def test_turns(self):
        self.assertEqual(([[3, 1], [4, 2]], [[2, 1], [4, 3]], 5, 3),
                         (turned([[1, 2], [3, 4]], 1), turned([[1, 2], [3, 4]], 4), combined(4, 1), opposite(1)))

    def test_joining(self):
        self.assertEqual([[1, 4, 3, 2]], joined_lists([[[1, None, 5, 2]], [[1, 4, 3, 2]], [[0, None, None, 2]]]))

    def test_primer(self):
        text = write_primer(Format(20, 4), 7)
        form, archive = read_primer(text)
        self.assertEqual((20, 4, 7, "This archive has the number 7.", "10 jump target"),
                         (form.side, form.checks, archive, text.split("\n")[0], text.split("\n")[-3]))

    def test_merging(self):
        first = [("keep", 1), ("add", (1,)), ("keep", 1)]
        second = [("keep", 1), ("add", (2,)), ("keep", 1)]
        self.assertEqual(([("keep", 1), ("add", (1, 2)), ("keep", 1)], [(1, (1,), (2,))]),
                         merged([5, 6], first, second))

    def test_codecs(self):
        self.assertEqual([5, 2, 255], stored("steps", [5, 7, 6]))
