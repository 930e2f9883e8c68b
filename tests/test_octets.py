"""Points 5, 6 and 7."""

from scanpages.errors import EncodingError, InvalidNumber, InvalidText
from scanpages.octets import number_octets, octets_text, read_number, text_octets
from tests.support import ProgramTest, lists_over

GREATEST = 34359738367
ALLOWED = [10] + [code for code in range(32, 127) if code != 37]


def edges():
    """The powers of 128 with their neighbours, and some more numbers."""
    numbers = {0, 1, 2, 300, 16000, GREATEST - 1, GREATEST}
    for power in range(1, 5):
        numbers.update((128 ** power - 1, 128 ** power, 128 ** power + 1, 3 * 128 ** power))
    return sorted(numbers)


class NumbersTest(ProgramTest):

    def test_examples(self):
        self.assertEqual([0], number_octets(0))
        self.assertEqual([127], number_octets(127))
        self.assertEqual([128, 1], number_octets(128))
        self.assertEqual([172, 2], number_octets(300))
        self.assertEqual([255, 255, 255, 255, 127], number_octets(GREATEST))
        self.assertEqual([128, 128, 128, 128, 1], number_octets(128 ** 4))

    def test_digits(self):
        for number in edges():
            with self.subTest(number=number):
                octets = self.pure(number_octets, number)
                digits = [octet % 128 for octet in octets]
                self.assertEqual(number, sum(digit * 128 ** place for place, digit in enumerate(digits)))
                self.assertTrue(all(octet >= 128 for octet in octets[:-1]))
                self.assertLess(octets[-1], 128)
                self.assertEqual(max(1, -(-number.bit_length() // 7)), len(octets))

    def test_refused(self):
        for number in (-1, -128, -GREATEST, GREATEST + 1, 2 ** 36, 2 ** 80, 10 ** 5000, -10 ** 5000):
            with self.subTest(number=number):
                self.raised(InvalidNumber, number_octets, number)

    def test_read_again(self):
        for number in edges():
            for before in ([], [9], [128, 128]):
                for after in ([], [0], [255]):
                    octets = before + number_octets(number) + after
                    expected = (number, len(octets) - len(after))
                    self.assertEqual(expected, self.pure(read_number, octets, len(before)))

    def test_read_example(self):
        self.assertEqual((300, 3), read_number([7, 172, 2, 9], 1))

    def position(self, octets, start):
        return self.raised(EncodingError, read_number, octets, start).position

    def test_fifth_octet_is_too_great(self):
        self.assertEqual(4, self.position([128, 128, 128, 128, 128], 0))
        self.assertEqual(4, self.position([255, 255, 255, 255, 255, 0], 0))
        self.assertEqual(6, self.position([1, 1, 128, 128, 128, 128, 200, 1], 2))

    def test_last_octet_is_0(self):
        self.assertEqual(1, self.position([128, 0], 0))
        self.assertEqual(3, self.position([5, 128, 200, 0, 7], 1))
        self.assertEqual(4, self.position([128, 128, 128, 128, 0], 0))
        self.assertEqual((0, 1), read_number([0, 0], 0))
        self.assertEqual((0, 2), read_number([5, 0], 1))

    def test_list_ends(self):
        for length in range(5):
            self.assertEqual(length, self.position([128] * length, 0))
            self.assertEqual(length + 2, self.position([1, 2] + [255] * length, 2))

    def test_what_is_read_is_written_again(self):
        for octets in lists_over([0, 1, 127, 128, 255], 6):
            try:
                number, end = read_number(octets, 0)
            except EncodingError as error:
                self.assertLessEqual(error.position, len(octets))
                continue
            self.assertEqual(octets[:end], number_octets(number))


class TextsTest(ProgramTest):

    def test_examples(self):
        self.assertEqual("Hi\n", octets_text([72, 105, 10]))
        self.assertEqual([72, 105, 10], text_octets("Hi\n"))
        self.assertEqual([65, 97, 126, 32], text_octets("Aa~ "))

    def test_empty(self):
        self.assertEqual([], self.pure(text_octets, ""))
        self.assertEqual("", self.pure(octets_text, []))

    def test_each_code(self):
        for code in list(range(300)) + [8364, 65313]:
            with self.subTest(code=code):
                if code in ALLOWED:
                    self.assertEqual([code], text_octets(chr(code)))
                    self.assertEqual(chr(code), octets_text([code]))
                else:
                    self.raised(InvalidText, text_octets, chr(code))
                    self.raised(InvalidText, octets_text, [code])

    def test_all_allowed_characters(self):
        text = "".join(chr(code) for code in ALLOWED)
        self.assertEqual(ALLOWED, self.pure(text_octets, text))
        self.assertEqual(text, self.pure(octets_text, ALLOWED))

    def test_wrong_character_at_each_place(self):
        for wrong in "%\t\r\x7f\x1f\x0b\u00e9":
            for text in (wrong + "ab", "a" + wrong + "b", "ab" + wrong):
                self.raised(InvalidText, text_octets, text)
                self.raised(InvalidText, octets_text, [ord(character) for character in text])

    def test_octets_below_0(self):
        self.raised(InvalidText, octets_text, [-1])
        self.raised(InvalidText, octets_text, [65, -91])
