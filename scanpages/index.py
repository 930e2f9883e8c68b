"""The words of volumes, and an index of them."""

from scanpages.volumes import leaves

HEADER = ("word", "paths")


def words(text):
    """Returns the list of the different words of a text, in ascending order."""
    spaced = "".join([character if _is_in_word(character) else " " for character in text])
    return sorted(set(spaced.lower().split()))


def _is_in_word(character):
    """Tells whether a character is a letter or a digit."""
    return character.isascii() and character.isalnum()


def index_volume(volume):
    """Returns the index of a volume."""
    paths = {}
    for path, leaf in leaves(volume):
        for word in _leaf_words(leaf):
            paths.setdefault(word, []).append(_written_path(path))
    return ("table", HEADER, tuple([(word, " ".join(paths[word])) for word in sorted(paths)]))


def _leaf_words(leaf):
    """Returns the list of the different words of a leaf."""
    if leaf[0] == "text":
        return words(leaf[1])
    texts = [text for row in (leaf[1], *leaf[2]) for text in row]
    # A line feed stands between the texts, so that no word reaches from one into the next.
    return words("\n".join(texts))


def _written_path(path):
    """Returns a path as it is written in an index."""
    return "/".join(path) if path != () else "/"


def find(index, word):
    """Returns the list of the written paths of the leaves that have a word."""
    for row in index[2]:
        if row[0] == word:
            return row[1].split(" ")
    return []
