"""The examples of the document's interface, word for word."""

import unittest

LETTERS = """\
>>> from stringheld.letters import compose, decompose, equivalent, points_of
>>> [points_of(("special",)), decompose((233, 803)), compose((101, 769, 803)), equivalent((233,), (101, 769))]
[(65, 69, 83, 97, 101, 115, 223), (101, 803, 769), (7865, 769), True]
>>> compose((98,))
raises BadText
"""

LIBRARIES = """\
>>> from stringheld.libraries import all_libraries, cut, equal, is_library, is_text, join, length, lower, reverse, stored, upper
>>> points, clusters = ("points", "refuse", "points", "kept", "full"), ("clusters", "back", "canonical", "kept", "full")
>>> [len(all_libraries()), is_library(points), length(points, (101, 769, 66600)), length(clusters, (101, 769, 66600)), length(("bytes",) + points[1:], (101, 769, 66600))]
[96, True, 3, 2, 7]
>>> [cut(("bytes",) + points[1:], (233,), 1), cut(clusters, (101, 769, 97), 1), equal(clusters, (233,), (101, 769)), upper(points, (223, 97)), lower(points, (83,)), reverse(clusters, (97, 101, 769))]
['refused', ((101, 769), (97,)), True, (83, 83, 65), (115,), (101, 769, 97)]
>>> whole = ("points", "back", "points", "composed", "simple")
>>> [join(whole, (101,), (769,)), stored(whole, (101, 769)), is_text(whole, (101, 769))]
[(233,), (233,), False]
>>> cut(points, (97,), 2)
raises BadPlace
"""

RULES = """\
>>> from stringheld.rules import holds_for, rules, shape
>>> [len(rules()), shape("equal parts"), holds_for(("points", "refuse", "points", "kept", "full"), "upper length", ((223,),)), holds_for(("bytes", "refuse", "points", "kept", "full"), "upper length", ((223,),))]
[22, ('text', 'text', 'place'), False, True]
>>> shape("Cancel")
raises BadRule
"""


def run(example):
    """The pairs of what each shown answer says and what the program answers."""
    names = {}
    lines = example.splitlines()
    pairs = []
    for at, line in enumerate(lines):
        if not line.startswith(">>> "):
            continue
        code = line[len(">>> "):]
        told = lines[at + 1] if at + 1 < len(lines) and not lines[at + 1].startswith(">>> ") else None
        if told is None:
            exec(code, names)
        else:
            pairs.append((told, answer(code, names)))
    return pairs


def answer(code, names):
    try:
        return repr(eval(code, names))
    except ValueError as error:
        return "raises " + type(error).__name__


class ExamplesTest(unittest.TestCase):
    def check(self, example, many):
        pairs = run(example)
        self.assertEqual(len(pairs), many)
        for told, found in pairs:
            self.assertEqual(found, told)

    def test_letters(self):
        self.check(LETTERS, 2)

    def test_libraries(self):
        self.check(LIBRARIES, 4)

    def test_rules(self):
        self.check(RULES, 2)


if __name__ == "__main__":
    unittest.main()
