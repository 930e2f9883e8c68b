"""Joining several scans of one page, each of which cannot be read alone."""

from scanpages.field import SYMBOLS
from scanpages.layout import taken
from scanpages.pages import read_lists, received_label
from scanpages.reading import upright


def read_label(form, rows):
    """Returns the label that codeword 0 of a page shows, or None."""
    return received_label(form, taken(form, rows)[0])


def joined_lists(lists):
    """Returns the received lists that are joined from those of several scans, symbol by symbol."""
    return [[_joined_symbol(entries) for entries in zip(*received)] for received in zip(*lists)]


def _joined_symbol(entries):
    """Returns the least one of the symbols that occur most often in a tuple of entries, or None if there is none."""
    counts = [entries.count(symbol) for symbol in range(SYMBOLS)]
    most = max(counts)
    return None if most == 0 else counts.index(most)


def read_scans(form, beds):
    """Returns the list of the pairs of a label and a body that a list of beds gives."""
    pairs = []
    partly_readable = {}
    for bed in beds:
        square = upright(form.side, bed)
        if square is None:
            continue
        lists = taken(form, square)
        pair = read_lists(form, lists)
        if pair is not None:
            pairs.append(pair)
            continue
        label = received_label(form, lists[0])
        if label is not None:
            partly_readable.setdefault(label, []).append(lists)
    return pairs + _joined_pairs(form, partly_readable, [label for label, _ in pairs])


def _joined_pairs(form, partly_readable, read_labels):
    """Returns the list of the pairs that are joined from the scans of each label that was not read.

    The dict has, for each label, the list of the received lists of its scans.
    """
    pairs = []
    for label, scans in partly_readable.items():
        if label in read_labels:
            continue
        pair = read_lists(form, joined_lists(scans))
        if pair is not None and pair[0] == label:
            pairs.append(pair)
    return pairs
