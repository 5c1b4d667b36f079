"""What a library does with its texts, for arguments that are known to be valid.

Texts may have any number of points here: a rule computes with results that are
longer than the texts that callers may pass.
"""

from stringheld.letters import MARKS, are_equivalent, composed_form, decomposed_form

UNIT = 0
CUTS = 1
EQUALITY = 2
STORE = 3
CASE = 4

CAPITALS = {97: 65, 101: 69, 115: 83, 233: 201, 7865: 7864, 66600: 66560}
SHARP_S = 223
CAPITALS_OF_SHARP_S = (83, 83)


def stored_form(library, points):
    """The points as the library stores them."""
    if library[STORE] == "composed":
        return composed_form(points)
    if library[STORE] == "decomposed":
        return decomposed_form(points)
    return tuple(points)


def counted_parts(library, text):
    """The list of the counted parts of a text, each a tuple of points."""
    if library[UNIT] != "clusters":
        return [(point,) for point in text]
    parts = []
    for point in text:
        if parts and point in MARKS:
            parts[-1] = parts[-1] + (point,)
        else:
            parts.append((point,))
    return parts


def part_count(library, part):
    """What a counted part counts."""
    if library[UNIT] == "bytes":
        return byte_count(part[0])
    if library[UNIT] == "units":
        return 1 if part[0] < 65536 else 2
    return 1


def byte_count(point):
    """How many bytes a point takes."""
    if point < 128:
        return 1
    if point < 2048:
        return 2
    return 3 if point < 65536 else 4


def total_length(library, text):
    """The sum of what the counted parts count."""
    return sum([part_count(library, part) for part in counted_parts(library, text)])


def cut_at(library, text, place):
    """The two parts of a cut, or "refused", for a place from 0 to the length."""
    counted = 0
    many = 0
    for part in counted_parts(library, text):
        more = part_count(library, part)
        if counted + more > place:
            break
        counted += more
        many += len(part)
    if counted < place and library[CUTS] == "refuse":
        return "refused"
    return stored_form(library, text[:many]), stored_form(library, text[many:])


def joined(library, one, other):
    """The sum of two texts."""
    return stored_form(library, one + other)


def are_equal(library, one, other):
    """Whether the library takes two texts as equal."""
    if library[EQUALITY] == "canonical":
        return are_equivalent(one, other)
    return one == other


def reversed_text(library, text):
    """The counted parts of a text in reverse order."""
    points = []
    for part in counted_parts(library, text)[::-1]:
        points.extend(part)
    return stored_form(library, points)


def capitals(library, text):
    """The capitals of a text."""
    points = []
    for point in text:
        if point == SHARP_S and library[CASE] == "full":
            points.extend(CAPITALS_OF_SHARP_S)
        else:
            points.append(CAPITALS.get(point, point))
    return stored_form(library, points)


def small_letters(library, text):
    """The small letters of a text."""
    small_of = {capital: small for small, capital in CAPITALS.items()}
    return stored_form(library, [small_of.get(point, point) for point in text])
