"""Values that several tests need."""

from stringheld.desks import Desk
from stringheld.errors import BadText

LIBRARY = ("points", "refuse", "points", "kept", "full")
DESK = Desk(LIBRARY)
DESK.run("load 101.769")

OBJECTS = (BadText("an object of the package"), DESK)
NO_TUPLES = (None, True, False, 0, 1, -1, 97, 10 ** 30, "", "marks", "97", [], [97], ["marks"], {}, {97: True},
             {"marks": True}) + OBJECTS

NO_RAW_TEXTS = NO_TUPLES + (
    (98,), (0,), (-97,), (True,), (False,), (97, True), (None,), ("a",), ("97",), ((97,),), ([97],), ({},), (97, []),
    (768,), (770,), (802,), (225,), (7863,), (66561,), (10 ** 30,), (97,) * 21, (769,) * 21, (97,) * 1000,
    (BadText("an object of the package"),), (DESK,), (97, DESK),
)

NO_LIBRARIES = NO_TUPLES + (
    (), ("points",), ("points", "refuse", "points", "kept"), ("points", "refuse", "points", "kept", "full", "full"),
    ("point", "refuse", "points", "kept", "full"), ("points", "forward", "points", "kept", "full"),
    ("points", "refuse", "bytes", "kept", "full"), ("points", "refuse", "points", "Kept", "full"),
    ("points", "refuse", "points", "kept", "none"), ("points", "refuse", "points", "full", "kept"),
    ("refuse", "points", "points", "kept", "full"), ("points", "refuse", "points", "kept", ""),
    ("points", "refuse", "points", "kept", None), (True, "refuse", "points", "kept", "full"),
    (("points",), "refuse", "points", "kept", "full"), (["points"], "refuse", "points", "kept", "full"),
    ({}, [], (), None, False), (0, 1, 2, 3, 4), ["points", "refuse", "points", "kept", "full"],
    "points refuse points kept full", (DESK, "refuse", "points", "kept", "full"), (DESK,) * 5,
)

NO_KINDS = NO_TUPLES + (
    ("special", "marks"), ("wide", "marks"), ("wide", "special"), ("marks", "wide", "special"),
    ("marks", "marks"), ("marks", "special", "special"), ("marks", "special", "wide", "wide"),
    ("plain",), ("marks", "plain"), ("Marks",), ("mark",), ("",), ("marks", ""), (None,), (True,), (97,),
    ("marks", None), (("marks",),), (["marks"],), ({},), ["marks"], {"marks": "special"}, (DESK,), ("marks", DESK),
)

NO_RULES = NO_TUPLES + (
    "Cancel", "cancel ", " cancel", "lengths  add", "lengths", "length add", "text", ("cancel",), ["cancel"],
    {"cancel": "cancel"}, ("lengths add", "points add"), (), (DESK,),
)

KINDS = ("marks", "special", "wide")
ALL_KINDS = ((), ("marks",), ("special",), ("wide",), ("marks", "special"), ("marks", "wide"), ("special", "wide"),
             KINDS)


def lib(unit="points", cuts="refuse", equality="points", store="kept", case="full"):
    """A library, given by what is special about it."""
    return (unit, cuts, equality, store, case)
