"""The examples of the document's interface, word for word, and those of README.md."""

import doctest
import os
import unittest

LETTERS = """\
>>> from stringheld.letters import compose, decompose, equivalent, points_of
>>> [points_of(("special",)), decompose((233, 803)), compose((101, 769, 803)), equivalent((233,), (101, 769))]
[(65, 69, 83, 97, 101, 115, 223), (101, 803, 769), (7865, 769), True]
>>> compose((98,))
raises BadText
"""

LIBRARIES = """\
>>> from stringheld.libraries import all_libraries, cut, equal, is_library, is_text, join, length, lower, reverse, stored, upper
>>> points, clusters = ("points", "refuse", "points", "kept", "full"), ("clusters", "back", "canonical", "kept", "full")
>>> [len(all_libraries()), is_library(points), length(points, (101, 769, 66600)), length(clusters, (101, 769, 66600)), length(("bytes",) + points[1:], (101, 769, 66600))]
[96, True, 3, 2, 7]
>>> [cut(("bytes",) + points[1:], (233,), 1), cut(clusters, (101, 769, 97), 1), equal(clusters, (233,), (101, 769)), upper(points, (223, 97)), lower(points, (83,)), reverse(clusters, (97, 101, 769))]
['refused', ((101, 769), (97,)), True, (83, 83, 65), (115,), (101, 769, 97)]
>>> whole = ("points", "back", "points", "composed", "simple")
>>> [join(whole, (101,), (769,)), stored(whole, (101, 769)), is_text(whole, (101, 769))]
[(233,), (233,), False]
>>> cut(points, (97,), 2)
raises BadPlace
"""

RULES = """\
>>> from stringheld.rules import holds_for, rules, shape
>>> [len(rules()), shape("equal parts"), holds_for(("points", "refuse", "points", "kept", "full"), "upper length", ((223,),)), holds_for(("bytes", "refuse", "points", "kept", "full"), "upper length", ((223,),))]
[22, ('text', 'text', 'place'), False, True]
>>> shape("Cancel")
raises BadRule
"""

DECISIONS = """\
>>> from stringheld.decisions import counterexample, holds
>>> clusters = ("clusters", "back", "canonical", "kept", "full")
>>> [holds(clusters, ("marks",), "equal lengths"), holds(clusters, ("marks",), "lengths add"), counterexample(clusters, ("marks",), "lengths add"), counterexample(("bytes",) + clusters[1:], ("marks", "wide"), "cut length")]
[True, False, ((101,), (769,)), ((769,), 1)]
>>> holds(clusters, ("wide", "marks"), "cancel")
raises BadKinds
"""

PROFILES = """\
>>> from stringheld.profiles import implies, libraries_with, most_rules, parting, profile
>>> every = ("marks", "special", "wide")
>>> [len(profile(("points", "refuse", "points", "kept", "full"), every)), implies(every, "first part", "lengths add"), parting(("marks",), "lengths add", "first part"), most_rules(every)]
[19, True, ('bytes', 'back', 'canonical', 'decomposed', 'full'), (('points', 'back', 'points', 'kept', 'simple'), ('points', 'refuse', 'points', 'kept', 'simple'))]
>>> len(libraries_with(every, ("cut length", "equivalent means equal", "equal means same", "lower of upper", "lengths add")))
4
>>> libraries_with(every, ("cancel", "cancel"))
raises BadRules
"""

NOTES = """\
>>> from stringheld.notes import read_text, write_text
>>> [write_text((101, 769, 66600)), write_text(()), read_text("223.97")]
['101.769.66600', '-', (223, 97)]
>>> read_text("98")
raises InvalidText
"""

DESKS = """\
>>> from stringheld.desks import Desk
>>> desk = Desk(("points", "back", "points", "composed", "full"))
>>> [desk.run("load 101"), desk.run("join 769"), desk.run("show"), desk.run("upper"), desk.run("show"), desk.undo(), desk.text, desk.run("length")]
[None, None, '233', None, '201', None, (233,), '1']
>>> desk.run("first 2")
raises NotNow
"""


def run(example):
    """The pairs of what each shown answer says and what the program answers."""
    names = {}
    lines = example.splitlines()
    pairs = []
    for at, line in enumerate(lines):
        if not line.startswith(">>> "):
            continue
        code = line[len(">>> "):]
        told = lines[at + 1] if at + 1 < len(lines) and not lines[at + 1].startswith(">>> ") else None
        if told is None:
            exec(code, names)
        else:
            pairs.append((told, answer(code, names)))
    return pairs


def answer(code, names):
    try:
        return repr(eval(code, names))
    except ValueError as error:
        return "raises " + type(error).__name__


class ExamplesTest(unittest.TestCase):
    def check(self, example, many):
        pairs = run(example)
        self.assertEqual(len(pairs), many)
        for told, found in pairs:
            self.assertEqual(found, told)

    def test_letters(self):
        self.check(LETTERS, 2)

    def test_libraries(self):
        self.check(LIBRARIES, 4)

    def test_rules(self):
        self.check(RULES, 2)

    def test_decisions(self):
        self.check(DECISIONS, 2)

    def test_profiles(self):
        self.check(PROFILES, 3)

    def test_notes(self):
        self.check(NOTES, 2)

    def test_desks(self):
        self.check(DESKS, 2)

    def test_readme(self):
        readme = os.path.join(os.path.dirname(os.path.abspath(__file__)), "..", "README.md")
        failed, tried = doctest.testfile(readme, module_relative=False)
        self.assertEqual(failed, 0)
        self.assertGreater(tried, 0)


if __name__ == "__main__":
    unittest.main()
