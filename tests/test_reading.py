"""Points 45, 46, 47 and 48."""

import itertools
import random

from scanpages.beds import laid
from scanpages.errors import InvalidBed
from scanpages.formats import Format
from scanpages.pages import draw_page, read_page
from scanpages.reading import find_page, find_turn, read_scan, upright
from scanpages.turns import turned, turning_distance
from tests.paper import FORMS, random_body, slow_empty_page, slow_turned, symbol_place, with_cells
from tests.support import ProgramTest
from tests.test_beds import NO_BEDS, white

LABEL = (7, 4, 5, 3, 2)
SIDES = (16, 17, 23, 40)


def ring_cells(side, distance=0):
    """The cells of a ring of a square, so far from the outermost one."""
    first, last = distance, side - 1 - distance
    return [(row, column) for row in range(first, last + 1) for column in range(first, last + 1)
            if row in (first, last) or column in (first, last)]


def moved(cells, row, column):
    """Cells of a page as cells of a bed."""
    return [(row + at, column + across) for at, across in cells]


def drawn(form, seed=1):
    """A page with a body that is chosen by chance."""
    return draw_page(form, LABEL, random_body(form, seed))


def differing(side, first, second):
    """The cells in which the turning marks differ between two turns."""
    one, other = [slow_turned(slow_empty_page(side), turn) for turn in (first, second)]
    return [(row, column) for row, column in ring_cells(side, 1) if one[row][column] != other[row][column]]


class FindPageTest(ProgramTest):

    def test_the_least_number_of_black_cells(self):
        chance = random.Random(1)
        for side in SIDES:
            least = 4 * side - 4 - (side - 1) // 2
            ring = ring_cells(side)
            self.assertEqual(4 * side - 4, len(ring))
            for height, width, row, column in ((side, side, 0, 0), (60, 60, 3, 60 - side), (side + 1, 50, 1, 2)):
                for _ in range(5):
                    cells = moved(chance.sample(ring, least), row, column)
                    bed = with_cells(white(height, width), [(place, 1) for place in cells])
                    self.assertEqual((row, column), self.pure(find_page, side, bed))
                    for cell in (0, 2):
                        self.assertIsNone(self.pure(find_page, side, with_cells(bed, [(cells[0], cell)])))

    def test_each_cell_of_the_ring_counts_once(self):
        for side in (16, 17):
            lost = (side - 1) // 2
            ring = ring_cells(side)
            for at in range(len(ring)):
                # So many neighbouring cells are lost, and one more.
                gone = [ring[(at + further) % len(ring)] for further in range(lost + 1)]
                bed = with_cells(white(side, side), [(place, 1) for place in ring if place not in gone[1:]])
                self.assertEqual((0, 0), find_page(side, bed))
                self.assertIsNone(find_page(side, with_cells(bed, [(gone[0], 2)])))

    def test_none_and_two(self):
        for side in SIDES:
            self.assertIsNone(self.pure(find_page, side, white(60, 60)))
            self.assertIsNone(find_page(side, [[2] * 60 for _ in range(60)]))
            self.assertIsNone(find_page(side, [[1] * 60 for _ in range(60)]))
            self.assertIsNone(find_page(side, [[1] * (side + 1) for _ in range(side)]))
            self.assertEqual((0, 0), find_page(side, [[1] * side for _ in range(side)]))
        for form, (row, column) in itertools.product(FORMS[:4], ((0, 30), (30, 0), (30, 30), (20, 25))):
            bed = laid(drawn(form), 0, 60, 60, 0, 0)
            self.assertEqual((0, 0), find_page(form.side, bed))
            for at, cells in enumerate(drawn(form, 2)):
                bed[row + at][column:column + form.side] = cells
            self.assertIsNone(self.pure(find_page, form.side, bed))

    def test_a_bed_that_is_smaller_than_the_page(self):
        for side in SIDES:
            for height, width in ((1, 1), (side - 1, 60), (60, side - 1), (side - 1, side - 1)):
                self.assertIsNone(self.pure(find_page, side, [[1] * width for _ in range(height)]))

    def check_found(self, form, page, row, column, changes):
        """Finds a page that was laid on a bed that was changed afterwards."""
        size = min(form.side + 20, 60)
        bed = with_cells(laid(page, 0, size, size, row, column), changes)
        self.assertEqual((row, column), find_page(form.side, bed))

    def test_damage_along_one_side(self):
        row, column = 2, 3
        for form, turn in itertools.product((*FORMS[:4], Format(40, 2)), range(8)):
            side = form.side
            lost = (side - 1) // 2
            page = slow_turned(drawn(form), turn)
            for start, (first, second) in itertools.product((0, 1, side - lost), ((0, -1), (side - 1, side))):
                along = range(start, start + lost)
                for cell in (0, 2):
                    rows = [((row + first, column + at), cell) for at in along]
                    rows += [((row + second, column + at), 1) for at in along]
                    self.check_found(form, page, row, column, rows)
                    columns = [((row + at, column + first), cell) for at in along]
                    columns += [((row + at, column + second), 1) for at in along]
                    self.check_found(form, page, row, column, columns)

    def test_any_damage_up_to_the_bound(self):
        chance = random.Random(2)
        for form in FORMS:
            side = form.side
            for _ in range(15):
                row, column = chance.randrange(21), chance.randrange(21)
                page_cells = set(moved(itertools.product(range(side), repeat=2), row, column))
                outside = [place for place in itertools.product(range(min(side + 20, 60)), repeat=2)
                           if place not in page_cells]
                inside = sorted(page_cells - set(moved(ring_cells(side), row, column)))
                colour = chance.choice((0, 1, 2, None))
                changes = [(place, chance.randrange(3) if colour is None else colour) for place in inside]
                frame = chance.sample(moved(ring_cells(side), row, column), (side - 1) // 2)
                changes += [(place, chance.choice((0, 2))) for place in frame]
                changes += [(place, 1) for place in chance.sample(outside, (side - 1) // 2)]
                self.check_found(form, drawn(form), row, column, changes)

    def test_no_beds(self):
        for bed in (*NO_BEDS, [[3]], [[0, -1]]):
            self.raised(InvalidBed, find_page, 16, bed)
            self.raised(InvalidBed, read_scan, FORMS[0], bed)
            self.raised(InvalidBed, upright, 16, bed)


class FindTurnTest(ProgramTest):

    def test_all_turns(self):
        for side, turn in itertools.product(range(16, 41), range(8)):
            self.assertEqual(turn, find_turn(slow_turned(slow_empty_page(side), turn)))

    def test_only_the_marks_count(self):
        chance = random.Random(3)
        for side, turn in itertools.product(SIDES, range(8)):
            ring = ring_cells(side, 1)
            rows = slow_turned(slow_empty_page(side), turn)
            others = [place for place in itertools.product(range(side), repeat=2) if place not in ring]
            for cell in (0, 1, 2, None):
                changes = [(place, chance.randrange(3) if cell is None else cell) for place in others]
                self.assertEqual(turn, self.pure(find_turn, with_cells(rows, changes)))

    def check_damaged(self, rows, turn, wrong, unreadable):
        """Finds a turn though some marks are wrong and some are unreadable."""
        changes = [(place, 1 - rows[place[0]][place[1]]) for place in wrong]
        changes += [(place, 2) for place in unreadable]
        self.assertEqual(turn, find_turn(with_cells(rows, changes)))

    def test_just_below_the_turning_distance(self):
        chance = random.Random(4)
        for side, turn in itertools.product(SIDES, range(8)):
            rows = slow_turned(slow_empty_page(side), turn)
            bound = turning_distance(side) - 1
            for wrong in {0, 1, bound // 4, bound // 2}:
                for _ in range(3):
                    cells = chance.sample(ring_cells(side, 1), bound - wrong)
                    self.check_damaged(rows, turn, cells[:wrong], cells[wrong:])
                for other in range(8):
                    if other != turn:
                        # The damage makes the marks look as much as possible like those of the other turn.
                        cells = differing(side, turn, other)
                        chance.shuffle(cells)
                        self.check_damaged(rows, turn, cells[:wrong], cells[wrong:bound - wrong])

    def test_two_turns_with_the_greatest_score(self):
        seen = 0
        for side, (first, second) in itertools.product(SIDES, itertools.combinations(range(8), 2)):
            cells = differing(side, first, second)
            if len(cells) == turning_distance(side):
                seen += 1
                rows = slow_turned(slow_empty_page(side), first)
                self.assertIsNone(self.pure(find_turn, with_cells(rows, [(place, 2) for place in cells])))
                half = [(place, 1 - rows[place[0]][place[1]]) for place in cells[:len(cells) // 2]]
                self.assertIsNone(self.pure(find_turn, with_cells(rows, half)))
        self.assertGreater(seen, len(SIDES))

    def test_any_marks(self):
        chance = random.Random(8)
        outcomes = set()
        for side in SIDES:
            ring = ring_cells(side, 1)
            turns = [slow_turned(slow_empty_page(side), turn) for turn in range(8)]
            for _ in range(150):
                # So many cells are taken from the marks of several turns that some scores are nearly equal.
                chosen = chance.sample(turns, chance.randrange(2, 5))
                changes = [((row, column), chance.choice(chosen)[row][column]) for row, column in ring]
                rows = with_cells([[chance.randrange(3)] * side for _ in range(side)], changes)
                rows = with_cells(rows, [(place, 2) for place in chance.sample(ring, chance.randrange(len(ring)))])
                scores = [sum(rows[row][column] == marks[row][column] for row, column in ring) for marks in turns]
                expected = scores.index(max(scores)) if scores.count(max(scores)) == 1 else None
                self.assertEqual(expected, find_turn(rows))
                outcomes.add(expected)
        self.assertEqual({None, *range(8)}, outcomes)

    def test_rings_of_one_colour(self):
        for side, cell in itertools.product(SIDES, (0, 1, 2)):
            self.assertIsNone(self.pure(find_turn, [[cell] * side for _ in range(side)]))


class ReadScanTest(ProgramTest):

    def test_all_turns_and_places(self):
        for form, turn in itertools.product(FORMS, range(8)):
            side = form.side
            body = random_body(form, turn)
            page = draw_page(form, LABEL, body)
            for height, width, row, column in ((side, side, 0, 0), (60, 60, 60 - side, 1), (side + 3, side + 5, 1, 4)):
                bed = laid(page, turn, height, width, row, column)
                self.assertEqual((LABEL, body), read_scan(form, bed))
                self.assertEqual(page, upright(side, bed))

    def test_upright_of_a_page_with_unreadable_cells(self):
        for form, turn in itertools.product(FORMS, range(8)):
            page = with_cells(drawn(form), [((2, 3), 2), ((0, 5), 2), ((5, 1), 2)])
            bed = laid(page, turn, form.side + 9, form.side + 3, 7, 2)
            self.assertEqual(page, self.pure(upright, form.side, bed))
            self.assertIsInstance(upright(form.side, bed), list)
            self.pure(read_scan, form, bed)

    def check_unreadable(self, form, page, is_upright):
        """A page of which the scan is unreadable, though it may be turned upright."""
        for turn in (0, 7):
            bed = laid(page, turn, 44, 50, 3, 8)
            self.assertIsNone(read_scan(form, bed))
            self.assertEqual(page if is_upright else None, upright(form.side, bed))

    def test_why_scans_are_unreadable(self):
        for form in FORMS:
            side = form.side
            page = drawn(form)
            lost_frame = with_cells(page, [((0, at), 0) for at in range((side - 1) // 2 + 1)])
            self.check_unreadable(form, lost_frame, False)
            lost_marks = with_cells(page, [(place, 2) for place in ring_cells(side, 1)])
            self.check_unreadable(form, lost_marks, False)
            self.assertIsNotNone(find_page(side, laid(lost_marks, 0, 60, 60, 0, 0)))
            for codeword in range(form.codewords):
                places = [symbol_place(form, codeword, number)[0] for number in range(form.checks + 1)]
                self.check_unreadable(form, with_cells(page, [(place, 2) for place in places]), True)
            self.check_unreadable(form, slow_empty_page(side), True)

    def test_two_pages_on_a_bed(self):
        form = FORMS[0]
        bed = laid(drawn(form), 0, 60, 60, 0, 0)
        for at, cells in enumerate(drawn(form)):
            bed[30 + at][30:46] = cells
        self.assertIsNone(read_scan(form, bed))
        self.assertIsNone(upright(16, bed))

    def damage_within_bounds(self, chance, form, page):
        """A page with as much damage as is allowed everywhere, but none outside."""
        side = form.side
        cells = chance.sample(ring_cells(side), (side - 1) // 2)
        changes = [(place, chance.choice((0, 2))) for place in cells]
        bound = turning_distance(side) - 1
        wrong = chance.randrange(bound // 2 + 1)
        marks = chance.sample(ring_cells(side, 1), bound - wrong)
        changes += [((row, column), 1 - page[row][column]) for row, column in marks[:wrong]]
        changes += [(place, 2) for place in marks[wrong:]]
        for codeword in range(form.codewords):
            wrong = chance.randrange(form.checks // 2 + 1)
            numbers = chance.sample(range(16), form.checks - wrong)
            for number in numbers[:wrong]:
                for row, column in chance.sample(symbol_place(form, codeword, number), chance.randrange(1, 5)):
                    changes.append(((row, column), 1 - page[row][column]))
            for number in numbers[wrong:]:
                changes += [(place, 2) for place in symbol_place(form, codeword, number)[chance.randrange(4):]]
        return with_cells(page, changes)

    def test_damage_within_all_bounds_at_once(self):
        chance = random.Random(5)
        for form, turn in itertools.product(FORMS, range(8)):
            side = form.side
            body = random_body(form, turn)
            page = self.damage_within_bounds(chance, form, draw_page(form, LABEL, body))
            row, column = chance.randrange(61 - side), chance.randrange(61 - side)
            outside = [(at, across) for at, across in itertools.product(range(60), repeat=2)
                       if not (row <= at < row + side and column <= across < column + side)]
            black = [(place, 1) for place in chance.sample(outside, (side - 1) // 2)]
            unreadable = [(place, 2) for place in chance.sample(outside, 100) if (place, 1) not in black]
            bed = with_cells(laid(page, turn, 60, 60, row, column), black + unreadable)
            self.assertEqual((LABEL, body), read_scan(form, bed))
            self.assertEqual(page, upright(side, bed))

    def test_torn_pages_are_read_rightly_or_not_at_all(self):
        chance = random.Random(6)
        outcomes = {True: 0, False: 0}
        for form in FORMS:
            body = random_body(form, 6)
            bed = laid(draw_page(form, LABEL, body), chance.randrange(8), form.side + 1, form.side + 2, 1, 1)
            cells = list(itertools.product(range(1, form.side + 1), repeat=2))
            for _ in range(60):
                count = chance.choice((chance.randrange(12), chance.randrange(100), chance.randrange(len(cells))))
                if chance.randrange(2) == 0:
                    torn = chance.sample(cells, count)
                else:
                    start = chance.randrange(len(cells) - count)
                    torn = cells[start:start + count]
                found = read_scan(form, with_cells(bed, [(place, 2) for place in torn]))
                outcomes[found is None] += 1
                self.assertIn(found, (None, (LABEL, body)))
        self.assertGreater(min(outcomes.values()), 20)

    def test_what_is_read_is_what_the_page_gives(self):
        chance = random.Random(7)
        form = FORMS[2]
        for _ in range(50):
            page = with_cells(drawn(form), [((chance.randrange(2, 16), chance.randrange(2, 16)), chance.randrange(3))
                                            for _ in range(chance.randrange(40))])
            turn = chance.randrange(8)
            self.assertEqual(read_page(form, page), read_scan(form, laid(turned(page, turn), 0, 30, 30, 2, 9)))
