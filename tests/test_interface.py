"""The names and the arguments of the interface, and where they are defined."""

import importlib
import inspect
import unittest

FUNCTIONS = {
    "octets": "number_octets(number) read_number(octets, start) text_octets(text) octets_text(octets)",
    "volumes": "volume_fault(volume) leaves(volume) lookup(volume, path) replaced(volume, path, new) "
               "removed(volume, path) gathered(pairs)",
    "encoding": "encode_volume(volume) decode_volume(octets)",
    "edits": "patch(old, script) normalized(script) cost(script) diff(old, new) inverted(old, script) "
             "squashed(first, second)",
    "versions": "encode_history(history) decode_history(octets)",
    "compression": "pack(octets) expand(packed, limit)",
    "machine": "check_code(octets) run(code, octets, bound)",
    "assembly": "assemble(text) disassemble(code)",
    "expander": "expander_code() expand_by_machine(code, packed, limit)",
    "field": "add(a, b) multiply(a, b) inverse(a)",
    "polynomials": "reduced(poly) add_polynomials(first, second) multiply_polynomials(first, second) "
                   "evaluate(poly, point) divide(poly, divisor) interpolate(points)",
    "linear": "solve_system(rows, right) rank(rows)",
    "coding": "encode(symbols, size) restored(received, count) corrected(received, count)",
    "labels": "check_label(label) label_symbols(label) symbols_label(symbols) group_pages(label, group)",
    "layout": "empty_page(form) place_cells(form, place) written(form, codewords) taken(form, rows)",
    "pages": "draw_page(form, label, body) read_page(form, rows) read_lists(form, lists)",
    "turns": "turned(rows, turn) opposite(turn) combined(first, second) turning_distance(side)",
    "beds": "check_bed(bed) laid(page, turn, height, width, row, column) changed(bed, changes)",
    "reading": "find_page(side, bed) find_turn(rows) read_scan(form, bed) upright(side, bed)",
    "joining": "read_label(form, rows) joined_lists(lists) read_scans(form, beds)",
    "slices": "cut(octets, capacity) slice_body(form, head, octets) body_slice(form, body)",
    "groups": "check_bodies(bodies, checks) complete(bodies, count)",
    "archives": "archive_pages(settings, parts) put_together(form, archive, pairs) print_archive(settings, parts) "
                "read_archive(form, archive, beds)",
    "primer": "write_primer(form, archive) read_primer(text)",
    "restoring": "publish(settings, contents) restore(primer, beds, limit)",
    "collection": "catalogue(pairs) publish_collection(settings, pairs) open_collection(primer, beds, limit)",
    "merging": "merged(old, first, second) rebased(old, script, over, later)",
    "changes": "compare(first, second) apply_changes(volume, changes)",
    "index": "words(text) index_volume(volume) find(index, word)",
    "pictures": "bed_picture(bed) picture_bed(text)",
    "planning": "plan(form, sizes, losses)",
    "codecs": "codec_code(name) stored(name, octets) publish_with(settings, name, contents)",
    "reports": "report(form, archive, beds)",
    "copying": "copy_pages(form, archive, beds) migrate(primer, beds, settings)",
    "branches": "merge_histories(first, second)",
}
# For each class its arguments, its methods and its properties.
CLASSES = {
    ("versions", "History"): ("(octets)", "__len__(self) record(self, octets) version(self, number) "
                                          "shorten(self, count)", ""),
    ("machine", "Result"): ("(word, output, steps)", "", ""),
    ("formats", "Format"): ("(side, checks)", "", "data_symbols codewords body_size capacity"),
    ("archives", "Settings"): ("(form, archive, group, checks)", "", ""),
    ("archives", "Restored"): ("(parts, pages, missing)", "", "lost_parts"),
    ("restoring", "Recovered"): ("(code, contents, lost, refused)", "", ""),
    ("collection", "Opened"): ("(catalogue, histories, lost)", "", ""),
    ("shelf", "Shelf"): ("(settings, parts)", "__len__(self) age(self, number, changes) swap(self, number, bed) "
                                              "inspect(self) mend(self) restored(self)", ""),
}


def listed(text):
    """The names and the arguments in a row of functions."""
    return [tuple(part.replace(" ", "").rstrip(")").split("(")) for part in text.split(") ") if part]


class InterfaceTest(unittest.TestCase):

    def check_arguments(self, function, arguments):
        """Checks the names of the arguments of a function."""
        self.assertEqual(arguments, ",".join(inspect.signature(function).parameters), function)

    def test_functions(self):
        for module, text in FUNCTIONS.items():
            found = importlib.import_module(f"scanpages.{module}")
            for name, arguments in listed(text):
                function = getattr(found, name)
                self.assertEqual(found.__name__, function.__module__)
                self.check_arguments(function, arguments)

    def test_later_is_given_by_its_name_alone(self):
        rebased = importlib.import_module("scanpages.merging").rebased
        later = inspect.signature(rebased).parameters["later"]
        self.assertEqual((inspect.Parameter.KEYWORD_ONLY, True), (later.kind, later.default))

    def test_classes(self):
        for (module, name), (arguments, methods, properties) in CLASSES.items():
            found = getattr(importlib.import_module(f"scanpages.{module}"), name)
            self.assertEqual(f"scanpages.{module}", found.__module__)
            self.check_arguments(found, arguments.replace(" ", "").strip("()"))
            for method, method_arguments in listed(methods):
                self.check_arguments(vars(found)[method], method_arguments)
            for name_of_property in properties.split():
                self.assertIsInstance(vars(found)[name_of_property], property)
