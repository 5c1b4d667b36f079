"""Which rules hold for all texts over some kinds of points, and texts that break the others."""

from stringheld.handling import CASE, CUTS, EQUALITY, STORE, UNIT
from stringheld.letters import check_kinds
from stringheld.libraries import check_library
from stringheld.rules import check_rule


def holds(library, kinds, rule):
    """Whether a rule holds for all texts of a library over the points of kinds."""
    check_question(library, kinds, rule)
    return keeps(library, kinds, rule)


def counterexample(library, kinds, rule):
    """Arguments for which a rule does not hold, or None."""
    check_question(library, kinds, rule)
    kind = first_breaking_kind(library, kinds, rule)
    if kind is None:
        return None
    return breaking_arguments(library, kind, rule)


def check_question(library, kinds, rule):
    """Raise the error for the first of the three that is invalid."""
    check_library(library)
    check_kinds(kinds)
    check_rule(rule)


def keeps(library, kinds, rule):
    """Whether the conditions of a rule are met for all of the kinds."""
    return first_breaking_kind(library, kinds, rule) is None


def first_breaking_kind(library, kinds, rule):
    """The first of the kinds whose condition is not met, or None."""
    for kind in kinds:
        if not meets_condition(library, kind, rule):
            return kind
    return None


def meets_condition(library, kind, rule):
    """Whether a library meets the condition of a rule for a kind, if one is told."""
    if (rule, kind) not in CONDITIONS:
        return True
    condition = CONDITIONS[(rule, kind)]
    return condition(library)


def breaking_arguments(library, kind, rule):
    """Arguments for which a rule does not hold, with points of a kind whose condition is not met."""
    if rule in ("every place", "cut length"):
        return PLACES_WITHIN_A_POINT[kind]
    if rule in ("first part", "last part", "points add"):
        return texts_changed_by_their_sum(library, rule)
    return COUNTEREXAMPLES[rule]


def texts_changed_by_their_sum(library, rule):
    """Two texts of which one does not stand in their sum as it was."""
    if library[STORE] == "decomposed" and (library[UNIT] != "clusters" or rule == "points add"):
        return ((101, 769), (803,))
    return ((101,), (769,))


# Each function below says of a library what the document asks of it.


def not_bytes(library):
    return library[UNIT] != "bytes"


def counts_whole_points(library):
    return library[UNIT] in ("points", "clusters")


def back_or_not_bytes(library):
    return library[CUTS] == "back" or not_bytes(library)


def back_or_counts_whole_points(library):
    return library[CUTS] == "back" or counts_whole_points(library)


def kept(library):
    return library[STORE] == "kept"


def kept_and_not_clusters(library):
    return kept(library) and library[UNIT] != "clusters"


def not_composed_and_not_clusters(library):
    return library[STORE] != "composed" and library[UNIT] != "clusters"


def points_or_not_kept(library):
    return library[EQUALITY] == "points" or not kept(library)


def clusters_or_points_or_not_kept(library):
    return library[UNIT] == "clusters" or points_or_not_kept(library)


def canonical_or_not_kept(library):
    return library[EQUALITY] == "canonical" or not kept(library)


def simple(library):
    return library[CASE] == "simple"


def simple_or_bytes(library):
    return simple(library) or library[UNIT] == "bytes"


# A rule and a kind that are not here have no condition.
CONDITIONS = {
    ("lengths add", "marks"): not_composed_and_not_clusters,
    ("points add", "marks"): kept,
    ("every place", "marks"): back_or_not_bytes,
    ("every place", "special"): back_or_not_bytes,
    ("every place", "wide"): back_or_counts_whole_points,
    ("cut length", "marks"): not_bytes,
    ("cut length", "special"): not_bytes,
    ("cut length", "wide"): counts_whole_points,
    ("first part", "marks"): kept_and_not_clusters,
    ("last part", "marks"): kept_and_not_clusters,
    ("equal lengths", "marks"): clusters_or_points_or_not_kept,
    ("equal parts", "marks"): clusters_or_points_or_not_kept,
    ("equal reversed", "marks"): clusters_or_points_or_not_kept,
    ("equal means same", "marks"): points_or_not_kept,
    ("equivalent means equal", "marks"): canonical_or_not_kept,
    ("upper length", "special"): simple_or_bytes,
    ("lower of upper", "special"): simple,
    ("reversed twice", "marks"): not_composed_and_not_clusters,
    ("reversed length", "marks"): not_composed_and_not_clusters,
    ("reverse of sum", "marks"): not_composed_and_not_clusters,
}

PLACES_WITHIN_A_POINT = {"marks": ((769,), 1), "special": ((223,), 1), "wide": ((66600,), 1)}

# Each of these rules has a condition for one kind alone.
COUNTEREXAMPLES = {
    "lengths add": ((101,), (769,)),
    "equal lengths": ((233,), (101, 769)),
    "equal parts": ((233,), (101, 769), 1),
    "equal reversed": ((233,), (101, 769)),
    "equal means same": ((233,), (101, 769)),
    "equivalent means equal": ((233,), (101, 769)),
    "upper length": ((223,),),
    "lower of upper": ((223,),),
    "reversed twice": ((769, 101),),
    "reversed length": ((769, 101),),
    "reverse of sum": ((101,), (769,)),
}
