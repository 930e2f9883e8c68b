"""Pages: labels and bodies as squares of cells, and back."""

from scanpages.coding import corrected, encode
from scanpages.errors import InvalidLabel, InvalidPage
from scanpages.field import is_symbol
from scanpages.formats import CODEWORD_SIZE
from scanpages.labels import LABEL_SYMBOLS, label_symbols, symbols_label
from scanpages.layout import taken, written


def check_body(form, body):
    """Checks that a list is a body: as many symbols as the format says."""
    if len(body) != form.body_size or not all(is_symbol(symbol) for symbol in body):
        raise InvalidPage("the body does not consist of as many symbols as the format says")


def draw_page(form, label, body):
    """Returns the page with a label and a body, drawn."""
    symbols = label_symbols(label)
    check_body(form, body)
    size = form.data_symbols
    contents = [symbols + [0] * (size - LABEL_SYMBOLS)]
    for start in range(0, len(body), size):
        contents.append(body[start:start + size])
    return written(form, [encode(content, CODEWORD_SIZE) for content in contents])


def read_page(form, rows):
    """Returns the pair of the label and the body of a page, or None if it cannot be read."""
    return read_lists(form, taken(form, rows))


def read_lists(form, lists):
    """Returns the pair of the label and the body of a page whose field gives these received lists, or None."""
    label = received_label(form, lists[0])
    if label is None:
        return None
    body = []
    for received in lists[1:]:
        codeword = corrected(received, form.data_symbols)
        if codeword is None:
            return None
        body.extend(codeword[:form.data_symbols])
    return label, body


def received_label(form, received):
    """Returns the label that a received list shows as codeword 0, or None."""
    codeword = corrected(received, form.data_symbols)
    if codeword is None or any(symbol != 0 for symbol in codeword[LABEL_SYMBOLS:form.data_symbols]):
        return None
    try:
        return symbols_label(codeword[:LABEL_SYMBOLS])
    except InvalidLabel:
        return None
