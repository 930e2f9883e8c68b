"""Points 34 and 35."""

import itertools
import random

from scanpages.coding import corrected, encode, restored
from scanpages.errors import InvalidSymbol
from scanpages.polynomials import evaluate, interpolate
from tests.support import ProgramTest

NO_SYMBOLS = (-1, 16, 255, -10 ** 20, 10 ** 5000)
SIZES = [(count, size) for count in range(1, 17) for size in range(count, 17)]


def slow_codeword(symbols, size):
    """The codeword of some symbols, by the polynomial that takes them as its values."""
    poly = interpolate(list(enumerate(symbols)))
    return [evaluate(poly, point) for point in range(size)]


def excess(codeword, received, count):
    """How far a codeword is from being near to a received list; it is near if this is at most 0."""
    missing = sum(entry is None for entry in received)
    wrong = sum(entry is not None and entry != symbol for symbol, entry in zip(codeword, received, strict=True))
    return 2 * wrong + missing - (len(received) - count)


def random_symbols(chance, count):
    """Symbols, chosen by chance."""
    return [chance.randrange(16) for _ in range(count)]


def damaged(chance, codeword, wrong, missing):
    """A received list with so many wrong and missing entries, at places that are chosen by chance."""
    places = chance.sample(range(len(codeword)), wrong + missing)
    received = list(codeword)
    for at in places[:wrong]:
        received[at] ^= chance.randrange(1, 16)
    for at in places[wrong:]:
        received[at] = None
    return received


class EncodeTest(ProgramTest):

    def test_example(self):
        self.assertEqual([3, 3, 3, 3, 3], self.pure(encode, [3, 3], 5))

    def test_all_counts_and_sizes(self):
        chance = random.Random(1)
        for count, size in SIZES:
            for symbols in (random_symbols(chance, count), [0] * count, [15] * count):
                codeword = self.pure(encode, symbols, size)
                self.assertEqual(symbols, codeword[:count])
                self.assertEqual(slow_codeword(symbols, size), codeword)
                self.assertLessEqual(len(interpolate(list(enumerate(codeword)))), count)

    def test_different_codewords_share_few_symbols(self):
        for count, size in ((1, 16), (2, 16), (2, 5), (2, 2)):
            words = [encode(list(symbols), size) for symbols in itertools.product(range(16), repeat=count)]
            for first, second in itertools.combinations(words[::3], 2):
                self.assertLessEqual(sum(a == b for a, b in zip(first, second)), count - 1)

    def test_sizes_that_are_not_allowed(self):
        for symbols, size in (([], 0), ([], 5), ([], 16), ([1], 0), ([1], -1), ([1, 2], 1), ([1, 2, 3], 2), ([1], 17),
                              ([1] * 16, 15), ([1] * 16, 17), ([1] * 17, 17), ([1] * 17, 16), ([1], 10 ** 5000)):
            self.raised(InvalidSymbol, encode, symbols, size)

    def test_no_symbols(self):
        for count in (1, 2, 7, 16):
            for at, wrong in itertools.product(range(count), NO_SYMBOLS):
                symbols = [3] * count
                symbols[at] = wrong
                self.raised(InvalidSymbol, encode, symbols, count)
                self.raised(InvalidSymbol, encode, symbols, 16)


class RestoredTest(ProgramTest):

    def test_whole_codewords(self):
        chance = random.Random(2)
        for count, size in SIZES:
            codeword = encode(random_symbols(chance, count), size)
            self.assertEqual(codeword, self.pure(restored, codeword, count))

    def test_as_few_entries_as_there_may_be(self):
        chance = random.Random(3)
        for count, size in SIZES:
            codeword = encode(random_symbols(chance, count), size)
            kept = damaged(chance, codeword, 0, size - count)
            self.assertEqual(codeword, self.pure(restored, kept, count))
            for at in range(size):
                if kept[at] is not None:
                    fewer = kept[:at] + [None] + kept[at + 1:]
                    self.assertIsNone(self.pure(restored, fewer, count))

    def test_other_entries_have_no_effect(self):
        chance = random.Random(4)
        for count, size in SIZES:
            codeword = encode(random_symbols(chance, count), size)
            received = damaged(chance, codeword, 0, chance.randrange(size - count + 1))
            there = [at for at in range(size) if received[at] is not None]
            for at in there[count:]:
                received[at] ^= chance.randrange(16)
            self.assertEqual(codeword, self.pure(restored, received, count))

    def test_any_entries_are_agreed_with(self):
        chance = random.Random(5)
        for _ in range(200):
            count, size = chance.choice(SIZES)
            received = [chance.choice((None, chance.randrange(16))) for _ in range(size)]
            there = [at for at in range(size) if received[at] is not None]
            found = self.pure(restored, received, count)
            if len(there) < count:
                self.assertIsNone(found)
            else:
                self.assertEqual([received[at] for at in there[:count]], [found[at] for at in there[:count]])
                self.assertEqual(found, encode(found[:count], size))

    def test_lists_of_None(self):
        for size in range(1, 17):
            for count in range(1, size + 1):
                self.assertIsNone(self.pure(restored, [None] * size, count))
                self.assertIsNone(self.pure(corrected, [None] * size, count))


class RefusalTest(ProgramTest):

    def test_counts_and_sizes(self):
        for call in (restored, corrected):
            for received, count in (([], 0), ([], 1), ([1], 0), ([1], -1), ([1], 2), ([1, 2, 3], 4), ([1] * 16, 17),
                                    ([None] * 16, 17), ([1] * 17, 1), ([None] * 17, 17), ([None] * 17, 2),
                                    ([1] * 3, 10 ** 5000)):
                self.raised(InvalidSymbol, call, received, count)

    def test_entries(self):
        for call, size in itertools.product((restored, corrected), (1, 3, 16)):
            for at, wrong in itertools.product(range(size), NO_SYMBOLS):
                for other, count in itertools.product((7, None), {1, size}):
                    received = [other] * size
                    received[at] = wrong
                    self.raised(InvalidSymbol, call, received, count)


class CorrectedTest(ProgramTest):

    def test_example(self):
        self.assertEqual([3, 3, 3, 3, 3], self.pure(corrected, [3, 9, 3, 3, None], 2))
        self.assertIsNone(self.pure(corrected, [3, 9, 3, None, None], 2))

    def test_up_to_the_bound(self):
        chance = random.Random(6)
        for count, size in SIZES:
            checks = size - count
            for wrong in range(checks // 2 + 1):
                for missing in {0, (checks - 2 * wrong) // 2, checks - 2 * wrong}:
                    codeword = encode(random_symbols(chance, count), size)
                    received = damaged(chance, codeword, wrong, missing)
                    self.assertEqual(codeword, self.pure(corrected, received, count), (count, received))

    def check_beyond(self, codeword, received, count):
        """Corrects a received list to which a codeword is not near; another one may be."""
        self.assertGreater(excess(codeword, received, count), 0)
        found = self.pure(corrected, received, count)
        self.assertNotEqual(codeword, found)
        if found is not None:
            self.assertEqual(found, encode(found[:count], len(received)))
            self.assertLessEqual(excess(found, received, count), 0)

    def test_one_beyond_the_bound(self):
        chance = random.Random(7)
        for count, size in SIZES:
            checks = size - count
            codeword = encode(random_symbols(chance, count), size)
            for wrong in range((checks + 1) // 2 + 1):
                missing = checks + 1 - 2 * wrong
                if missing >= 0:
                    self.check_beyond(codeword, damaged(chance, codeword, wrong, missing), count)
            if checks % 2 == 0 and checks // 2 + 1 <= size:
                self.check_beyond(codeword, damaged(chance, codeword, checks // 2 + 1, 0), count)

    def test_too_many_missing_entries_alone(self):
        for count, size in SIZES:
            codeword = encode([at % 16 for at in range(count)], size)
            received = [None] * (size - count + 1) + codeword[size - count + 1:]
            self.assertIsNone(self.pure(corrected, received, count))

    def test_any_list_against_all_codewords(self):
        chance = random.Random(8)
        for count in (1, 2):
            for size in range(count, 17):
                words = [encode(list(symbols), size) for symbols in itertools.product(range(16), repeat=count)]
                for _ in range(12):
                    base = chance.choice(words)
                    touched = chance.randrange(size + 1)
                    received = damaged(chance, base, touched, chance.randrange(size - touched + 1))
                    near = [word for word in words if excess(word, received, count) <= 0]
                    self.assertLessEqual(len(near), 1)
                    self.assertEqual(near[0] if near else None, self.pure(corrected, received, count))

    def test_all_short_lists_against_all_codewords(self):
        entries = (0, 1, 2, 9, None)
        for count, size in ((1, 1), (1, 2), (1, 3), (1, 4), (2, 2), (2, 3), (2, 4)):
            words = [encode(list(symbols), size) for symbols in itertools.product(range(16), repeat=count)]
            for received in itertools.product(entries, repeat=size):
                near = [word for word in words if excess(word, received, count) <= 0]
                self.assertEqual(near[0] if near else None, corrected(list(received), count))

    def test_no_checks(self):
        for size in range(1, 17):
            received = [at * 7 % 16 for at in range(size)]
            self.assertEqual(received, self.pure(corrected, received, size))
            self.assertIsNone(self.pure(corrected, received[:-1] + [None], size))
