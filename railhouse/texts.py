"""Lines of words and numbers: what all written forms have in common.

The form of a line is written as in "train LENGTH BLOCK ..": a first word, then a name for each number, and two dots if
there may be more of the last one. The name HEADING stands for one of the words east and west.
"""

from railhouse.errors import BadText

DIGIT_LIMIT = 13


def line_of(parts):
    """Return the line that consists of these words and numbers."""
    words = [part if isinstance(part, str) else _digits_of(part) for part in parts]
    return " ".join(words) + "\n"


def _digits_of(number):
    """Return the number in digits."""
    # Python refuses to write a number of some thousand digits at once.
    limit = 10 ** 64
    ends = []
    while number >= limit:
        number, end = divmod(number, limit)
        ends.append(str(end).zfill(64))
    return str(number) + "".join(ends[::-1])


class Reader:
    """A text that is read from its first line to its last one."""

    def __init__(self, text):
        pieces = text.split("\n")
        self._lines = [piece.split(" ") for piece in pieces[:-1]]
        # What stands behind the last newline can never be a line.
        self._rest = pieces[-1]
        self._read = 0

    def is_done(self):
        """Tell whether all of the text has been read."""
        return self._read == len(self._lines) and self._rest == ""

    def begins(self, form):
        """Tell whether the next line has the first word of the form."""
        return self._read < len(self._lines) and self._lines[self._read][0] == form.split(" ")[0]

    def read(self, forms):
        """Read the next line, which has one of the forms; return its first word and its values."""
        for form in forms:
            if self.begins(form):
                row = _row_of(self._lines[self._read], form)
                if row is not None:
                    self._read += 1
                    return row
        raise BadText(self._read + 1)

    def read_ascending(self, form, many):
        """Read all lines with the first word of the form; their first `many` numbers ascend from line to line."""
        rows = []
        while self.begins(form):
            row = self.read([form])
            if rows and row[1:many + 1] <= rows[-1][1:many + 1]:
                raise BadText(self._read)
            rows.append(row)
        return rows

    def finish(self):
        """Raise BadText if anything is left."""
        if not self.is_done():
            raise BadText(self._read + 1)


def _row_of(words, form):
    """Return the first word of a line and its values, or None if the line has not this form."""
    names = form.split(" ")
    if names[-1] == "..":
        names = names[:-1] + [names[-2]] * (len(words) - len(names) + 1)
    if len(words) != len(names):
        return None
    row = [words[0]]
    for word, name in zip(words[1:], names[1:]):
        if name == "HEADING" and word in ("east", "west"):
            row.append(word)
        elif name != "HEADING" and _is_number(word):
            row.append(int(word))
        else:
            return None
    return row


def _is_number(word):
    """Tell whether the word is a number as the program writes it, with few enough digits."""
    if not word.isascii() or not word.isdigit() or len(word) > DIGIT_LIMIT:
        return False
    return word == "0" or word[0] != "0"
