"""The written forms of deeds of a panel and of a desk."""

from railhouse.texts import Reader, line_of

FORMS = (
    "place TRAIN BLOCK HEADING", "request TRAIN BLOCK ..", "advance TRAIN", "release TRAIN", "cancel TRAIN",
    "withdraw TRAIN", "step TRAIN", "delay TRAIN STEP AMOUNT", "exchange BLOCK PLACE",
)


def format_deeds(deeds):
    """Return the written form of the deeds, one line for each."""
    return "".join([line_of(_parts_of(deed)) for deed in deeds])


def parse_deeds(text):
    """Return the deeds with this written form."""
    reader = Reader(text)
    deeds = []
    while not reader.is_done():
        deeds.append(_deed_of(reader.read(FORMS)))
    return deeds


def _parts_of(deed):
    """Return the words and numbers of a deed."""
    if deed[0] == "request":
        word, train, blocks = deed
        return [word, train, *blocks]
    return deed


def _deed_of(parts):
    """Return the deed that consists of these words and numbers."""
    if parts[0] == "request":
        word, train, *blocks = parts
        return word, train, tuple(blocks)
    return tuple(parts)
