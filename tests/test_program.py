"""The whole program: volumes and their versions on paper, and back."""

import random

from scanpages.archives import Settings
from scanpages.branches import merge_histories
from scanpages.changes import apply_changes, compare
from scanpages.codecs import codec_code, publish_with, stored
from scanpages.collection import catalogue, open_collection, publish_collection
from scanpages.copying import copy_pages, migrate
from scanpages.encoding import decode_volume, encode_volume
from scanpages.formats import Format
from scanpages.index import find, index_volume
from scanpages.pictures import bed_picture, picture_bed
from scanpages.planning import plan
from scanpages.reports import report
from scanpages.restoring import publish
from scanpages.shelf import Shelf
from scanpages.versions import History, encode_history
from scanpages.volumes import lookup, removed, replaced, volume_fault
from tests.scans import damaged, scan_anyhow, torn_scans, unreadable_beds
from tests.support import ProgramTest, nested

CODECS = ("plain", "packed", "steps")


def first_volumes():
    """Three volumes: a tree with everything in it, a table, and a text."""
    tree = ("folder", (("empty", ("folder", ())), ("list", ("table", ("item", "many"), (("apples", "3"), ("nuts", "20")))),
                       ("notes", ("folder", (("1st", ("text", "Buy apples.\nThen rest.")), ("2nd", ("text", "")))))))
    return [tree, ("table", ("only",), ()), nested(8, ("text", "deep \\ ~ {} \n"))]


def later_volumes(volume):
    """Some later versions of a volume."""
    if volume[0] == "table":
        return [("table", ("only",), (("one",), ("two",))), ("table", ("only",), (("two",),)), volume]
    if volume[1][0][0] == "a":
        return [replaced(volume, ("a",) * 7, ("text", "deeper")), ("folder", ())]
    second = replaced(volume, ("notes", "3rd"), ("text", "Apples are sold out."))
    third = removed(second, ("notes", "2nd"))
    return [second, third, replaced(third, ("list",), ("table", ("item", "many"), (("nuts", "19"),)))]


def histories_of_volumes():
    """The pairs of the names and all versions of some volumes, and the collection of their histories."""
    volumes = [(name, [volume, *later_volumes(volume)]) for name, volume in zip(("a", "b.1", "z-z"), first_volumes())]
    pairs = []
    for name, versions in volumes:
        history = History(encode_volume(versions[0]))
        for volume in versions[1:]:
            history.record(encode_volume(volume))
        pairs.append((name, history))
    return volumes, pairs


class ProgramFromEndToEndTest(ProgramTest):

    def scans(self, chance, settings, pages, lost):
        """Beds on which the pages lie in any order and turn, whole, damaged or torn, and other beds among them."""
        form = settings.form
        beds = []
        for number, page in enumerate(pages):
            if number in lost:
                continue
            kind = chance.randrange(4)
            if kind == 0:
                beds += torn_scans(chance, form, page)
            else:
                beds += [scan_anyhow(chance, form, damaged(chance, form, page)) for _ in range(1 + kind // 3)]
        beds += unreadable_beds(chance, form, [pages[number] for number in sorted(lost)])
        other = Settings(form, settings.archive ^ 1, 1, 1)
        beds += [scan_anyhow(chance, form, page) for page in publish(other, [[1, 2, 3]])[1]]
        chance.shuffle(beds)
        return beds

    def check_opened(self, primer, beds, volumes, pairs):
        """Opens a collection, and holds every volume and version against what was put in."""
        found = open_collection(primer, beds, 4000)
        self.assertEqual(((), catalogue(pairs)), (found.lost, found.catalogue))
        self.assertEqual([name for name, _ in volumes], [name for name, _ in found.histories])
        for (_, versions), (_, history) in zip(volumes, found.histories):
            self.assertEqual(len(versions), len(history))
            for number, volume in enumerate(versions):
                self.assertEqual(volume, decode_volume(history.version(number)))

    def test_collections_with_each_codec(self):
        chance = random.Random(1)
        volumes, pairs = histories_of_volumes()
        for _, versions in volumes:
            self.assertEqual([None] * len(versions), [volume_fault(volume) for volume in versions])
        contents = [encode_volume(catalogue(pairs)), *[encode_history(history) for _, history in pairs]]
        for name in CODECS:
            for form, losses in ((Format(22, 4), 1), (Format(30, 8), 2), (Format(40, 2), 0)):
                sizes = [len(codec_code(name))] + [len(stored(name, content)) for content in contents]
                group, count = plan(form, sizes, losses)
                settings = Settings(form, 200, group, losses)
                primer, pages = publish_with(settings, name, contents)
                self.assertEqual(count, len(pages))
                lost = set(chance.sample(range(count), losses))
                beds = self.scans(chance, settings, pages, lost)
                self.check_opened(primer, beds, volumes, pairs)
                self.check_report(settings, beds, count, lost, len(sizes))
                self.assertEqual(list(enumerate(pages)), copy_pages(form, 200, beds))

    def check_report(self, settings, beds, count, lost, parts):
        """Checks the report on an archive of which no part is lost."""
        lines = [f"{number} {'computed' if number in lost else 'read'}\n" for number in range(count)]
        lines += [f"part {number} whole\n" for number in range(parts)]
        self.assertEqual("".join(lines), report(settings.form, settings.archive, beds))

    def test_a_collection_that_is_published_and_migrated(self):
        chance = random.Random(2)
        volumes, pairs = histories_of_volumes()
        settings = Settings(Format(26, 6), 0, 4, 2)
        primer, pages = publish_collection(settings, pairs)
        for new in (Settings(Format(20, 4), 255, 6, 1), Settings(Format(33, 8), 3, 2, 2)):
            beds = self.scans(chance, settings, pages, set())
            self.check_opened(primer, beds, volumes, pairs)
            primer, pages = migrate(primer, beds, new)
            settings = new
        self.check_opened(primer, self.scans(chance, settings, pages, {3}), volumes, pairs)

    def test_a_shelf_over_generations(self):
        chance = random.Random(3)
        volumes, pairs = histories_of_volumes()
        contents = [encode_history(history) for _, history in pairs]
        settings = Settings(Format(24, 4), 77, 4, 1)
        shelf = Shelf(settings, contents)
        new = shelf.beds
        for _ in range(5):
            lost = chance.randrange(len(shelf))
            for number in range(len(shelf)):
                bed = [list(row) for row in shelf.beds[number]]
                shelf.swap(number, None if number == lost else picture_bed(bed_picture(bed)))
                if number != lost:
                    shelf.age(number, [(chance.randrange(4, 24), chance.randrange(4, 24), 2) for _ in range(2)])
            self.assertEqual([lost], [number for number, passed in enumerate(shelf.inspect()) if not passed])
            shelf.mend()
            self.assertEqual(new, shelf.beds)
        self.assertEqual(tuple(map(tuple, contents)), shelf.restored().parts)

    def test_branches_and_changes_of_a_volume(self):
        volumes, pairs = histories_of_volumes()
        versions, history = volumes[0][1], pairs[0][1]
        for before, after in zip(versions, versions[1:]):
            self.assertEqual(after, apply_changes(before, compare(before, after)))
        branch = History(history.version(0))
        branch.record(encode_volume(replaced(versions[0], ("empty",), ("text", "full now"))))
        merged_history, conflicts = merge_histories(history, branch)
        self.assertEqual([], conflicts)
        found = decode_volume(merged_history.version(len(history)))
        self.assertEqual(replaced(versions[-1], ("empty",), ("text", "full now")), found)
        index = index_volume(found)
        self.assertEqual(["notes/1st", "notes/3rd"], find(index, "apples"))
        self.assertEqual(["empty"], find(index, "full"))
        self.assertEqual(("text", "full now"), lookup(found, ("empty",)))
