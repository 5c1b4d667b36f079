"""The 96 string libraries: how each counts, cuts, compares, stores and maps case."""

from stringheld.errors import BadLibrary, BadPlace, BadText
from stringheld.handling import are_equal, capitals, cut_at, joined
from stringheld.handling import reversed_text, small_letters, stored_form, total_length
from stringheld.letters import check_raw_text, is_raw_text

# Each tuple is ascending, so that all_libraries is.
UNITS = ("bytes", "clusters", "points", "units")
CUT_WORDS = ("back", "refuse")
EQUALITIES = ("canonical", "points")
STORES = ("composed", "decomposed", "kept")
CASES = ("full", "simple")


def is_library(value):
    """Whether a value is a library."""
    if not isinstance(value, tuple) or len(value) != 5:
        return False
    choices = (UNITS, CUT_WORDS, EQUALITIES, STORES, CASES)
    return all([word in words for word, words in zip(value, choices)])


def all_libraries():
    """The ascending tuple of all libraries."""
    return tuple([
        (unit, cuts, equality, store, case)
        for unit in UNITS for cuts in CUT_WORDS for equality in EQUALITIES for store in STORES for case in CASES
    ])


def stored(library, text):
    """The form in which a library stores a raw text."""
    check_library(library)
    check_raw_text(text)
    return stored_form(library, text)


def is_text(library, value):
    """Whether a value is a text of a library, of at most 20 points."""
    check_library(library)
    return is_raw_text(value) and stored_form(library, value) == value


def length(library, text):
    """The length of a text."""
    check_text(library, text)
    return total_length(library, text)


def cut(library, text, place):
    """The pair of the first part of a text and the rest, or "refused"."""
    check_text(library, text)
    if not is_place(place) or place > total_length(library, text):
        raise BadPlace("a place is an integer from 0 to the length of the text")
    return cut_at(library, text, place)


def join(library, one, other):
    """The points of one text followed by those of another, as they are stored."""
    check_text(library, one)
    check_text(library, other)
    return joined(library, one, other)


def equal(library, one, other):
    """Whether the library takes two texts as equal."""
    check_text(library, one)
    check_text(library, other)
    return are_equal(library, one, other)


def reverse(library, text):
    """The points of a text, or its clusters, in reverse order."""
    check_text(library, text)
    return reversed_text(library, text)


def upper(library, text):
    """The capitals of a text."""
    check_text(library, text)
    return capitals(library, text)


def lower(library, text):
    """The small letters of a text."""
    check_text(library, text)
    return small_letters(library, text)


def check_library(value):
    """Raise BadLibrary for any value but a library."""
    if not is_library(value):
        raise BadLibrary("a library is a tuple of words for unit, cuts, equality, store and case")


def check_text(library, value):
    """Raise BadLibrary for any value but a library, then BadText for any but a text of it."""
    if not is_text(library, value):
        raise BadText("a text is a raw text in the form in which the library stores it")


def is_place(value):
    """Whether a value is an integer from 0 on."""
    return isinstance(value, int) and not isinstance(value, bool) and value >= 0
