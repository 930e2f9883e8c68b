"""Points 49 and 50."""

import itertools

from scanpages.errors import InvalidArchive, InvalidPage
from scanpages.formats import Format
from scanpages.slices import body_slice, cut, slice_body
from tests.paper import FORMS
from tests.support import ProgramTest

NO_OCTETS = (-1, 256, -256, 10 ** 5000, -10 ** 5000)


def slow_body(form, head, count, octets):
    """The list of the symbols for a head, a number of octets, and octets, filled up with symbols 0."""
    symbols = [symbol for integer in (*head, count, *octets) for symbol in divmod(integer, 16)]
    return symbols + [0] * (form.body_size - len(symbols))


class CutTest(ProgramTest):

    def test_the_words_of_the_document(self):
        for capacity in (1, 2, 3, 13, 128):
            for length in {0, 1, capacity - 1, capacity, capacity + 1, 2 * capacity, 3 * capacity - 1, 3 * capacity + 1}:
                octets = [at * 7 % 256 for at in range(length)]
                slices = self.pure(cut, octets, capacity)
                self.assertEqual(octets, [octet for piece in slices for octet in piece])
                self.assertEqual(max(1, -(-length // capacity)), len(slices))
                self.assertTrue(all(len(piece) == capacity for piece in slices[:-1]))
                self.assertTrue(1 <= len(slices[-1]) <= capacity or length == 0)

    def test_examples(self):
        for octets, capacity, expected in (
            ([], 1, [[]]), ([], 5, [[]]), ([1], 1, [[1]]), ([1, 2], 1, [[1], [2]]), ([1, 2], 3, [[1, 2]]),
            ([1, 2, 3], 3, [[1, 2, 3]]), ([1, 2, 3, 4], 3, [[1, 2, 3], [4]]), ([1, 2, 3, 4], 2, [[1, 2], [3, 4]]),
        ):
            self.assertEqual(expected, self.pure(cut, octets, capacity))


class BodyTest(ProgramTest):

    def both_ways(self, form, head, octets):
        """Makes a body from a slice, and the slice from the body."""
        body = self.pure(slice_body, form, head, octets)
        self.assertEqual(slow_body(form, head, len(octets), octets), body)
        self.assertEqual(form.body_size, len(body))
        found = self.pure(body_slice, form, body)
        self.assertEqual((head, octets), found)
        self.assertIsInstance(found, tuple)
        self.assertIsInstance(found[0], tuple)
        self.assertIsInstance(found[1], list)

    def refused(self, form, head, octets):
        """What is no slice, neither from its parts nor from its symbols, if there are such symbols."""
        self.raised(InvalidArchive, slice_body, form, head, octets)
        body = slow_body(form, head, len(octets), octets)
        if len(body) == form.body_size and all(0 <= symbol <= 15 for symbol in body):
            self.assertIsNone(self.pure(body_slice, form, body))

    def test_there_and_back(self):
        for form in FORMS:
            for count in {0, 1, form.capacity - 1, form.capacity}:
                octets = [(at * 37 + 255) % 256 for at in range(count)]
                for head in ((0, 1, 0, 1), (98, 99, 254, 255), (3, 18, 16, 17), (0, 99, 0, 1)):
                    self.both_ways(form, head, octets)
        self.assertEqual([0, 2, 0, 5, 0, 1, 0, 2, 0, 2, 15, 14, 0, 7],
                         slice_body(Format(16, 2), (2, 5, 1, 2), [254, 7]))

    def test_parts(self):
        for form in FORMS:
            for part, parts in ((0, 0), (1, 1), (5, 5), (6, 5), (0, 100), (99, 100), (99, 99), (0, 255), (-1, 5),
                                (0, -1), (-2, -1), (0, 256), (0, 10 ** 3000), (-10 ** 3000, 3)):
                self.refused(form, (part, parts, 0, 1), [7])
            for part, parts in ((0, 1), (4, 5), (0, 99), (98, 99)):
                self.both_ways(form, (part, parts, 0, 1), [7])

    def test_slices(self):
        for form in FORMS:
            full = [9] * form.capacity
            for number, slices in ((0, 0), (1, 1), (5, 5), (6, 5), (255, 255), (255, 256), (0, 256), (-1, 5), (0, -1),
                                   (-2, -1), (0, 10 ** 3000), (-10 ** 3000, 3)):
                self.refused(form, (0, 1, number, slices), full)
            for number, slices in ((0, 1), (0, 2), (1, 2), (0, 255), (253, 255), (254, 255)):
                self.both_ways(form, (0, 1, number, slices), full)

    def test_numbers_of_octets(self):
        for form in FORMS:
            for count in range(form.capacity + 5):
                octets = [3] * count
                for number, slices in ((0, 1), (0, 2), (1, 2), (1, 3), (2, 3)):
                    if count == form.capacity or count < form.capacity and number == slices - 1:
                        self.both_ways(form, (0, 1, number, slices), octets)
                    else:
                        self.refused(form, (0, 1, number, slices), octets)

    def test_an_empty_last_slice_of_several(self):
        for form in FORMS:
            for slices in (1, 2, 255):
                self.both_ways(form, (1, 2, slices - 1, slices), [])
            self.refused(form, (1, 2, 0, 2), [])

    def test_a_number_of_octets_that_does_not_fit(self):
        for form in FORMS:
            for count in (form.capacity + 1, form.capacity + 2, 200, 255):
                for at in range(2):
                    body = slow_body(form, (0, 1, 0, 1), count, [5 * at] * form.capacity)
                    self.assertIsNone(self.pure(body_slice, form, body))

    def test_symbols_behind_the_octets(self):
        for form in FORMS:
            for count in {0, form.capacity - 1, form.capacity}:
                body = slow_body(form, (0, 1, 0, 1), count, [255] * count)
                end = 10 + 2 * count
                for at, symbol in itertools.product({end, end + 1, form.body_size - 1}, (1, 15)):
                    if end <= at < form.body_size:
                        wrong = body[:at] + [symbol] + body[at + 1:]
                        self.assertIsNone(self.pure(body_slice, form, wrong))

    def test_octets_that_are_none(self):
        for form in FORMS:
            for wrong in NO_OCTETS:
                self.raised(InvalidArchive, slice_body, form, (0, 1, 0, 1), [wrong])
                for at in range(form.capacity):
                    octets = [1] * at + [wrong] + [1] * (form.capacity - at - 1)
                    self.raised(InvalidArchive, slice_body, form, (0, 1, 0, 1), octets)

    def test_bodies_of_a_wrong_size(self):
        for form in FORMS:
            body = slow_body(form, (0, 1, 0, 1), 1, [9])
            for wrong in ([], body[:-1], body[:-2], body + [0], body + [0, 0], body * 2):
                self.raised(InvalidPage, body_slice, form, wrong)
            for at, symbol in itertools.product((0, 9, form.body_size - 1), (-1, 16, 10 ** 5000)):
                self.raised(InvalidPage, body_slice, form, body[:at] + [symbol] + body[at + 1:])

    def test_bodies_of_equal_symbols(self):
        for form, symbol in itertools.product(FORMS, range(16)):
            self.assertIsNone(self.pure(body_slice, form, [symbol] * form.body_size))
