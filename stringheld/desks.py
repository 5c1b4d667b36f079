"""A desk: a text of a library that is changed line by line."""

from stringheld.errors import InvalidText, NothingToUndo, NotNow
from stringheld.handling import capitals, cut_at, joined, reversed_text, small_letters, stored_form, total_length
from stringheld.letters import LONGEST_RAW_TEXT
from stringheld.libraries import check_library
from stringheld.notes import check_string, read_text, write_text

DIGITS = "0123456789"
MOST_DIGITS = 4


class Desk:
    """Keeps a text of a library, and all texts before it."""

    def __init__(self, library):
        check_library(library)
        self._library = library
        # The last one is the text; those before it are what undo goes back to.
        self._texts = [()]

    @property
    def text(self):
        """The text."""
        return self._texts[-1]

    def run(self, line):
        """Do what a line says: answer it, or change the text and return None."""
        check_string(line)
        if line == "show":
            return write_text(self.text)
        if line == "length":
            return str(total_length(self._library, self.text))
        text = text_after(self._library, self.text, line)
        if len(text) > LONGEST_RAW_TEXT:
            raise NotNow("the text would have more than 20 points")
        self._texts.append(text)
        return None

    def undo(self):
        """Take back the last line that changed the text."""
        if len(self._texts) == 1:
            raise NothingToUndo("no line is left to take back")
        del self._texts[-1]


def text_after(library, text, line):
    """What a text becomes by a line, however many points it has."""
    if line == "upper":
        return capitals(library, text)
    if line == "lower":
        return small_letters(library, text)
    if line == "reverse":
        return reversed_text(library, text)
    # With no space, told is "", which is neither a note nor an integer.
    word, _, told = line.partition(" ")
    if word == "load":
        return stored_form(library, read_text(told))
    if word == "join":
        return joined(library, text, stored_form(library, read_text(told)))
    if word == "first":
        return parts_of_cut(library, text, read_place(told))[0]
    if word == "rest":
        return parts_of_cut(library, text, read_place(told))[1]
    raise InvalidText("no line begins so")


def read_place(told):
    """The integer that is written after a word."""
    has_digits_alone = all([sign in DIGITS for sign in told])
    has_needless_zero = len(told) > 1 and told[0] == "0"
    if not has_digits_alone or has_needless_zero or not 1 <= len(told) <= MOST_DIGITS:
        raise InvalidText("an integer has at most 4 digits and no needless zeros")
    return int(told)


def parts_of_cut(library, text, place):
    """The two parts of a text that is cut at a place."""
    if place > total_length(library, text):
        raise NotNow("the place is greater than the length of the text")
    parts = cut_at(library, text, place)
    if parts == "refused":
        raise NotNow("the cut is refused")
    return parts
