"""Points, raw texts, and their decomposed and composed forms."""

from stringheld.errors import BadKinds, BadText

KINDS = ("marks", "special", "wide")
# Ascending, as points_of returns them.
KIND_OF = {
    65: "plain", 69: "plain", 83: "plain", 97: "plain", 101: "plain", 115: "plain",
    201: "marks", 223: "special", 233: "marks", 769: "marks", 803: "marks",
    7864: "marks", 7865: "marks", 66560: "wide", 66600: "wide",
}
ACUTE = 769
DOT_BELOW = 803
MARKS = (769, 803)
PIECES = {201: (69, 769), 233: (101, 769), 7864: (69, 803), 7865: (101, 803)}
LONGEST_RAW_TEXT = 20


def points_of(kinds):
    """The ascending tuple of the plain points and those of some kinds."""
    check_kinds(kinds)
    return tuple([point for point, kind in KIND_OF.items() if kind == "plain" or kind in kinds])


def decompose(text):
    """The decomposed form of a raw text."""
    check_raw_text(text)
    return decomposed_form(text)


def compose(text):
    """The composed form of a raw text."""
    check_raw_text(text)
    return composed_form(text)


def equivalent(one, other):
    """Whether the decomposed forms of two raw texts are the same."""
    check_raw_text(one)
    check_raw_text(other)
    return are_equivalent(one, other)


def check_kinds(value):
    """Raise BadKinds for any value but an ascending tuple of different kinds."""
    if not isinstance(value, tuple) or value != tuple(kind for kind in KINDS if kind in value):
        raise BadKinds("kinds are an ascending tuple of different words among marks, special and wide")


def check_raw_text(value):
    """Raise BadText for any value but a raw text."""
    if not is_raw_text(value):
        raise BadText("a raw text is a tuple of at most 20 points")


def is_raw_text(value):
    """Whether a value is a tuple of at most 20 points."""
    if not isinstance(value, tuple) or len(value) > LONGEST_RAW_TEXT:
        return False
    # True and False need no test of their own: 1 and 0 are no points.
    return all(isinstance(point, int) and point in KIND_OF for point in value)


# The functions below take points that are known to be points, however many:
# results of the package may be longer than the raw texts that callers may pass.


def are_equivalent(one, other):
    """Whether the decomposed forms of two tuples of points are the same."""
    return decomposed_form(one) == decomposed_form(other)


def decomposed_form(points):
    """The decomposed form of any number of points."""
    form = []
    for point in points:
        for piece in PIECES.get(point, (point,)):
            form.insert(place_for(piece, form), piece)
    return tuple(form)


def place_for(piece, form):
    """Where the next piece goes into a decomposed form: an 803 before the 769s at its end."""
    at = len(form)
    if piece == DOT_BELOW:
        while at > 0 and form[at - 1] == ACUTE:
            at -= 1
    return at


def composed_form(points):
    """The composed form of any number of points.

    In a decomposed form the first mark behind 69 or 101 always composes, and
    nothing composes with what comes of it or with another point. So a mark
    that composes stands right behind its point, and none is ever hindered.
    """
    form = []
    for point in decomposed_form(points):
        whole = whole_of(form[-1], point) if form else None
        if whole is None:
            form.append(point)
        else:
            form[-1] = whole
    return tuple(form)


def whole_of(base, mark):
    """The point that decomposes into base and mark, or None."""
    for whole, pieces in PIECES.items():
        if pieces == (base, mark):
            return whole
    return None
