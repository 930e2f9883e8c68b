"""Points 65, 66 and 67."""

import itertools
import random

from scanpages.beds import laid
from scanpages.coding import encode
from scanpages.errors import InvalidBed, InvalidPage
from scanpages.formats import Format
from scanpages.joining import joined_lists, read_label, read_scans
from scanpages.layout import written
from scanpages.pages import draw_page, read_page
from tests.paper import FORMS, NO_CELLS, page_codewords, random_body, symbol_place, with_cells
from tests.support import ProgramTest
from tests.test_beds import NO_BEDS, white

LABEL = (7, 4, 5, 3, 2)
# The symbols of this label differ in one place from those of the label above.
NEIGHBOUR = (7, 5, 5, 3, 2)
OTHER = (8, 0, 1, 1, 0)


def without(form, page, codeword, numbers):
    """A page on which some symbols of a codeword are unreadable."""
    return with_cells(page, [(symbol_place(form, codeword, number)[number % 4], 2) for number in numbers])


def torn_from(form, page, start):
    """A page of which the body cannot be read, since in each of its codewords too many symbols are unreadable."""
    for codeword in range(1, form.codewords):
        page = without(form, page, codeword, [number % 16 for number in range(start, start + form.checks + 1)])
    return page


def scan(form, page, turn=0, row=1, column=2):
    """A bed on which a page lies."""
    return laid(page, turn, form.side + 2, form.side + 3, row, column)


class JoinedListsTest(ProgramTest):

    def test_example(self):
        self.assertEqual([[1, 4, 3, 2]], self.pure(joined_lists, [[[1, None, 5, 2]], [[1, 4, 3, 2]],
                                                                  [[0, None, None, 2]]]))

    def joined(self, *entries):
        """The symbol that is joined from the entries of several scans in one place."""
        return self.pure(joined_lists, [[[entry]] for entry in entries])[0][0]

    def test_one_scan_alone(self):
        for entry in (*range(16), None):
            self.assertEqual(entry, self.joined(entry))
        lists = [[1, None, 3], [None, 0, 15]]
        self.assertEqual(lists, self.pure(joined_lists, [lists]))

    def test_most_scans_decide(self):
        for entries in ((9, 9, 3), (9, 3, 9), (3, 9, 9), (None, 9, None), (9, None, 9, 0, 15), (0, 9, 1, 9, 2, 9, 1)):
            self.assertEqual(9, self.joined(*entries))
        self.assertEqual(0, self.joined(0, 0, 1))
        self.assertEqual(15, self.joined(15, 15, 0, None))

    def test_the_least_one_of_several(self):
        for entries, expected in (((3, 9), 3), ((9, 3), 3), ((15, 0), 0), ((9, 3, 9, 3), 3), ((9, 3, 9, 3, 1), 3),
                                  ((9, 3, None), 3), ((14, 15, 13), 13), ((5, 5, 4, 4, 6), 4)):
            self.assertEqual(expected, self.joined(*entries))

    def test_no_scan_shows_a_symbol(self):
        for count in range(1, 5):
            self.assertIsNone(self.joined(*[None] * count))

    def test_all_short_cases(self):
        for count in (1, 2, 3, 4):
            for entries in itertools.product((0, 1, 15, None), repeat=count):
                shown = [entry for entry in entries if entry is not None]
                most = max(map(shown.count, shown), default=0)
                expected = min((entry for entry in shown if shown.count(entry) == most), default=None)
                self.assertEqual(expected, joined_lists([[[entry]] for entry in entries])[0][0])

    def test_places_do_not_mix(self):
        first = [[1, 2], [3, None]]
        second = [[None, 2], [5, None]]
        self.assertEqual([[1, 2], [3, None]], self.pure(joined_lists, [first, second]))
        self.assertEqual([[1, 2], [3, None]], self.pure(joined_lists, [second, first]))
        self.assertEqual([[1, 2], [5, None]], self.pure(joined_lists, [second, first, second]))


class ReadLabelTest(ProgramTest):

    def test_the_body_has_no_effect(self):
        for form in FORMS:
            for page in (draw_page(form, LABEL, random_body(form, 1)),
                         torn_from(form, draw_page(form, LABEL, random_body(form, 2)), 3)):
                found = self.pure(read_label, form, page)
                self.assertEqual(LABEL, found)
                self.assertIsInstance(found, tuple)

    def test_damage_of_codeword_0(self):
        for form in FORMS:
            page = draw_page(form, LABEL, random_body(form, 3))
            self.assertEqual(LABEL, read_label(form, without(form, page, 0, range(form.checks))))
            self.assertIsNone(read_label(form, without(form, page, 0, range(form.checks + 1))))
            place = symbol_place(form, 0, 5)[1]
            wrong = with_cells(page, [(place, 1 - page[place[0]][place[1]])])
            self.assertEqual(LABEL, read_label(form, wrong))
            self.assertEqual(LABEL, read_label(form, without(form, wrong, 0, range(6, 4 + form.checks))))
            self.assertNotEqual(LABEL, read_label(form, without(form, wrong, 0, range(6, 5 + form.checks))))

    def test_symbols_that_show_no_label(self):
        for form in FORMS:
            size = form.data_symbols
            for symbols in ([0] * size, [15] * size, [0, 7, 0, 9, 0, 5, 3, 2] + [0] * (size - 8),
                            *([[0, 7, 0, 4, 0, 5, 3, 2] + [0] * (size - 9) + [1]] if size > 8 else [])):
                page = written(form, [encode(symbols, 16)] * form.codewords)
                self.assertIsNone(self.pure(read_label, form, page))

    def test_no_squares(self):
        form = FORMS[0]
        page = draw_page(form, LABEL, random_body(form, 1))
        for wrong in ([], page[:-1], page + [page[0]], [page[0][:-1], *page[1:]],
                      *(with_cells(page, [((3, 3), cell)]) for cell in NO_CELLS)):
            self.raised(InvalidPage, read_label, form, wrong)


class ReadScansTest(ProgramTest):

    def test_scans_that_are_read(self):
        form = FORMS[4]
        bodies = [random_body(form, seed) for seed in range(4)]
        labels = [LABEL, OTHER, LABEL, NEIGHBOUR]
        pages = [draw_page(form, label, body) for label, body in zip(labels, bodies)]
        beds = [scan(form, page, turn) for turn, page in enumerate(pages)]
        self.assertEqual(list(zip(labels, bodies)), self.pure(read_scans, form, beds))
        self.assertEqual(list(zip(labels, bodies))[::-1], self.pure(read_scans, form, beds[::-1]))
        self.assertEqual([(LABEL, bodies[0])] * 3, self.pure(read_scans, form, [beds[0]] * 3))

    def test_nothing(self):
        form = FORMS[0]
        self.assertEqual([], self.pure(read_scans, form, []))
        self.assertEqual([], self.pure(read_scans, form, [white(60, 60), [[1]], [[2] * 16 for _ in range(16)]]))
        page = draw_page(form, LABEL, random_body(form, 1))
        self.assertEqual([], self.pure(read_scans, form, [scan(form, torn_from(form, page, 0))]))

    def test_unreadable_beds_among_others(self):
        form = FORMS[1]
        body = random_body(form, 2)
        page = draw_page(form, LABEL, body)
        beds = [[[0]], scan(form, torn_from(form, page, 0)), white(60, 60), scan(form, torn_from(form, page, 8)), [[2]]]
        self.assertEqual([(LABEL, body)], self.pure(read_scans, form, beds))

    def test_torn_scans_are_joined(self):
        for form, turn in itertools.product(FORMS, range(8)):
            body = random_body(form, turn)
            page = draw_page(form, LABEL, body)
            parts = [torn_from(form, page, start) for start in (0, 5)]
            for part in parts:
                self.assertIsNone(read_page(form, part))
                self.assertEqual([], read_scans(form, [scan(form, part, turn)]))
            beds = [scan(form, parts[0], turn), scan(form, parts[1], 7 - turn, 2, 0)]
            self.assertEqual([(LABEL, body)], self.pure(read_scans, form, beds))

    def test_as_many_symbols_as_checks(self):
        for form in FORMS[:5]:
            body = random_body(form, 4)
            page = draw_page(form, LABEL, body)
            for codeword in range(1, form.codewords):
                both = range(2, 2 + form.checks)
                first, second = [scan(form, without(form, page, codeword, [*both, number])) for number in (0, 12)]
                self.assertEqual([], read_scans(form, [first]) + read_scans(form, [second]))
                self.assertEqual([(LABEL, body)], self.pure(read_scans, form, [first, second]))
                beyond = scan(form, without(form, page, codeword, [*both, 0, 13]))
                self.assertEqual([], self.pure(read_scans, form, [first, beyond]))
                self.assertEqual([(LABEL, body)], self.pure(read_scans, form, [first, beyond, second]))

    def test_torn_scans_by_chance(self):
        chance = random.Random(5)
        outcomes = set()
        for _ in range(150):
            form = chance.choice(FORMS[:5])
            body = random_body(form, 6)
            page = draw_page(form, LABEL, body)
            torn = []
            pages = []
            for _ in range(chance.randrange(1, 5)):
                gone = {codeword: set(chance.sample(range(16), chance.randrange(17)))
                        for codeword in range(1, form.codewords)}
                gone[1] |= set(chance.sample(range(16), form.checks + 1))
                torn.append(gone)
                part = page
                for codeword, numbers in gone.items():
                    part = without(form, part, codeword, numbers)
                pages.append(scan(form, part, chance.randrange(8)))
            is_joined = all(len(set.intersection(*(gone[codeword] for gone in torn))) <= form.checks
                            for codeword in range(1, form.codewords))
            outcomes.add(is_joined)
            self.assertEqual([(LABEL, body)] if is_joined else [], read_scans(form, pages))
        self.assertEqual({True, False}, outcomes)

    def test_order(self):
        form = FORMS[4]
        body = random_body(form, 7)
        labels = (LABEL, OTHER, NEIGHBOUR)
        pages = [draw_page(form, label, body) for label in labels]
        halves = [[scan(form, torn_from(form, page, start)) for start in (0, 8)] for page in pages]
        for order in itertools.permutations(range(3)):
            first, second, third = [halves[at] for at in order]
            expected = [(labels[at], body) for at in order]
            beds = [first[0], second[0], second[1], third[1], first[1], third[0]]
            self.assertEqual(expected, self.pure(read_scans, form, beds))
            # What is read comes first, wherever it stands.
            beds = [*first, *second, scan(form, pages[order[2]])]
            self.assertEqual([expected[2], *expected[:2]], self.pure(read_scans, form, beds))

    def test_a_label_that_is_read_and_shown_by_partly_readable_scans(self):
        form = FORMS[4]
        first, second = random_body(form, 8), random_body(form, 9)
        torn = [scan(form, torn_from(form, draw_page(form, LABEL, first), start)) for start in (0, 8)]
        whole = scan(form, draw_page(form, LABEL, second))
        for beds in ([whole, *torn], [*torn, whole], [torn[0], whole, torn[1]]):
            self.assertEqual([(LABEL, second)], self.pure(read_scans, form, beds))
        other = scan(form, draw_page(form, OTHER, second))
        self.assertEqual([(OTHER, second), (LABEL, first)], read_scans(form, [*torn, other]))

    def test_most_scans_decide(self):
        form = FORMS[4]
        body = random_body(form, 10)
        page = draw_page(form, LABEL, body)
        wrong = page
        for number in range(form.checks // 2 + 1):
            row, column = symbol_place(form, 2, number)[0]
            wrong = with_cells(wrong, [((row, column), 1 - wrong[row][column])])
        bad = scan(form, torn_from(form, wrong, 6))
        good = scan(form, torn_from(form, page, 6))
        rest = scan(form, torn_from(form, page, 11))
        self.assertEqual([(LABEL, body)], self.pure(read_scans, form, [bad, good, rest]))
        self.assertNotEqual([(LABEL, body)], self.pure(read_scans, form, [bad, bad, bad, good, rest]))

    def test_joined_pages_with_another_label(self):
        form = Format(20, 4)
        body = random_body(form, 11)
        page = draw_page(form, LABEL, body)
        own, other = [page_codewords(form, label, body)[0] for label in (LABEL, NEIGHBOUR)]
        places = [number for number in range(16) if own[number] != other[number]]
        self.assertEqual(5, len(places))
        towards = []
        for numbers in itertools.combinations(places[:3], 2):
            codewords = page_codewords(form, LABEL, body)
            codewords[0] = [other[number] if number in numbers else own[number] for number in range(16)]
            towards.append(written(form, codewords))
        for part in towards:
            self.assertEqual((LABEL, body), read_page(form, part))
        beds = [scan(form, torn_from(form, part, start)) for part, start in zip(towards, (0, 5, 10))]
        # All three show the label, but in most of them codeword 0 is nearer to that of its neighbour.
        self.assertEqual([], self.pure(read_scans, form, beds))
        beds.append(scan(form, torn_from(form, page, 3)))
        self.assertEqual([(LABEL, body)], self.pure(read_scans, form, beds))

    def test_no_beds(self):
        form = FORMS[0]
        good = scan(form, draw_page(form, LABEL, random_body(form, 12)))
        for wrong in (*NO_BEDS, [[3]], [[0, -1]]):
            for beds in ([wrong], [good, wrong], [wrong, good], [[[0]], wrong]):
                self.raised(InvalidBed, read_scans, form, beds)
