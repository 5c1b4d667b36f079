"""Raw texts written as notes, and notes read."""

from stringheld.errors import InvalidText, NotText
from stringheld.letters import KIND_OF, LONGEST_RAW_TEXT, check_raw_text

NO_POINTS = "-"


def write_text(text):
    """The note of a raw text."""
    check_raw_text(text)
    if len(text) == 0:
        return NO_POINTS
    return ".".join([str(point) for point in text])


def read_text(note):
    """The raw text of a note."""
    check_string(note)
    if note == NO_POINTS:
        return ()
    # Looking the parts up refuses whatever else might be read as an integer.
    point_of = {str(point): point for point in KIND_OF}
    parts = note.split(".")
    if len(parts) > LONGEST_RAW_TEXT or not all([part in point_of for part in parts]):
        raise InvalidText("a note is at most 20 points with a dot between, or - for none")
    return tuple([point_of[part] for part in parts])


def check_string(value):
    """Raise NotText for any value but a string."""
    if not isinstance(value, str):
        raise NotText("a note or a line is a string")
