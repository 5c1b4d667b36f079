import itertools
import unittest

from conditions import WORDS, has_condition, is_met, rule_holds
from samples import ALL_KINDS, KINDS, NO_KINDS, NO_LIBRARIES, NO_RULES, lib
from stringheld import decisions
from stringheld.decisions import counterexample, holds
from stringheld.errors import BadKinds, BadLibrary, BadRule
from stringheld.letters import points_of
from stringheld.libraries import all_libraries, is_text, length
from stringheld.rules import holds_for, rules, shape

# Points that the rules tell apart, for some kinds.
SOME_POINTS = {
    (): (69, 101), ("marks",): (101, 769, 803, 233), ("special",): (83, 115, 223), ("wide",): (97, 66600),
    KINDS: (769, 223, 66600),
}


def texts_over(library, points, longest):
    products = [itertools.product(points, repeat=many) for many in range(longest + 1)]
    return [text for texts in products for text in texts if is_text(library, text)]


def arguments_over(library, points, rule):
    """The arguments of a rule with short texts over some points: the more texts, the shorter."""
    many_texts, many_places = shape(rule).count("text"), shape(rule).count("place")
    texts = texts_over(library, points, {1: 3, 2: 2, 3: 1}[many_texts])
    for chosen in itertools.product(texts, repeat=many_texts):
        longest = min(length(library, text) for text in chosen)
        for places in itertools.product(range(longest + 1), repeat=many_places):
            yield chosen + places


class HoldsTest(unittest.TestCase):
    def test_conditions_are_told_for_all_rules(self):
        self.assertEqual(tuple(WORDS), rules())

    def test_each_rule_with_each_kind_in_each_library(self):
        for rule, kind, library in itertools.product(rules(), KINDS, all_libraries()):
            told = is_met(library, kind, rule)
            self.assertIs(holds(library, (kind,), rule), told, (library, kind, rule))

    def test_each_condition_is_met_in_some_libraries_alone(self):
        conditions = [(kind, rule) for kind in KINDS for rule in rules() if has_condition(kind, rule)]
        self.assertEqual(len(conditions), 20)
        for kind, rule in conditions:
            answers = {holds(library, (kind,), rule) for library in all_libraries()}
            self.assertEqual(answers, {True, False}, (kind, rule))

    def test_several_kinds(self):
        for rule, kinds, library in itertools.product(rules(), ALL_KINDS, all_libraries()):
            self.assertIs(holds(library, kinds, rule), rule_holds(library, kinds, rule), (library, kinds, rule))

    def test_with_no_kinds_all_rules_hold(self):
        for rule, library in itertools.product(rules(), all_libraries()):
            self.assertIs(holds(library, (), rule), True)

    def test_some_answers(self):
        cases = (
            (lib(), ("marks",), "lengths add", True), (lib(store="composed"), ("marks",), "lengths add", False),
            (lib("clusters"), ("marks",), "lengths add", False), (lib("clusters"), ("wide",), "lengths add", True),
            (lib(store="decomposed"), ("marks",), "points add", False),
            (lib("bytes"), ("special",), "every place", False), (lib("bytes", "back"), KINDS, "every place", True),
            (lib("units"), KINDS, "every place", False), (lib("units"), ("marks", "special"), "every place", True),
            (lib("units", "back"), KINDS, "cut length", False),
            (lib(case="full"), ("special",), "upper length", False), (lib("bytes"), ("special",), "upper length", True),
            (lib("bytes"), ("special",), "lower of upper", False), (lib(case="simple"), KINDS, "lower of upper", True),
            (lib(), ("marks",), "equivalent means equal", False), (lib(), ("marks",), "equal means same", True),
        )
        for library, kinds, rule, told in cases:
            with self.subTest((library, kinds, rule)):
                self.assertIs(holds(library, kinds, rule), told)

    def test_a_rule_that_holds_is_broken_by_no_texts(self):
        for library, kinds, rule in itertools.product(all_libraries(), SOME_POINTS, rules()):
            # Rules that map no case hold alike with both cases: one of the two is enough for them.
            maps_case = rule in ("equal capitals", "upper length", "upper of sum", "lower of upper")
            if holds(library, kinds, rule) and (maps_case or library[4] == "full"):
                for arguments in arguments_over(library, SOME_POINTS[kinds], rule):
                    self.assertTrue(holds_for(library, rule, arguments), (library, rule, arguments))


class CounterexampleTest(unittest.TestCase):
    def test_none_where_the_rule_holds(self):
        for rule, kinds, library in itertools.product(rules(), ALL_KINDS, all_libraries()):
            found = counterexample(library, kinds, rule)
            self.assertEqual(found is None, rule_holds(library, kinds, rule), (library, kinds, rule))

    def test_a_counterexample_breaks_its_rule(self):
        for rule, kinds, library in itertools.product(rules(), ALL_KINDS, all_libraries()):
            found = counterexample(library, kinds, rule)
            if found is not None:
                self.assertIs(type(found), tuple)
                self.assertIs(holds_for(library, rule, found), False, (library, kinds, rule))
                points = [point for text in found if isinstance(text, tuple) for point in text]
                self.assertLessEqual(set(points), set(points_of(kinds)))

    def test_places_for_the_first_kind_whose_condition_is_not_met(self):
        found = {"marks": ((769,), 1), "special": ((223,), 1), "wide": ((66600,), 1)}
        for rule, kinds, library in itertools.product(("every place", "cut length"), ALL_KINDS, all_libraries()):
            broken = [kind for kind in kinds if not is_met(library, kind, rule)]
            told = found[broken[0]] if broken else None
            self.assertEqual(counterexample(library, kinds, rule), told, (library, kinds, rule))

    def test_places_by_kind(self):
        cases = (
            (lib("bytes"), KINDS, ((769,), 1)), (lib("bytes"), ("special", "wide"), ((223,), 1)),
            (lib("bytes"), ("wide",), ((66600,), 1)), (lib("bytes"), ("marks", "wide"), ((769,), 1)),
            (lib("units"), KINDS, ((66600,), 1)), (lib("units"), ("marks", "special"), None),
            (lib("points"), KINDS, None), (lib("clusters"), KINDS, None),
        )
        for library, kinds, told in cases:
            with self.subTest((library, kinds)):
                self.assertEqual(counterexample(library, kinds, "every place"), told)
                self.assertEqual(counterexample(library, kinds, "cut length"), told)
        self.assertIsNone(counterexample(lib("bytes", "back"), KINDS, "every place"))
        self.assertEqual(counterexample(lib("bytes", "back"), KINDS, "cut length"), ((769,), 1))
        self.assertEqual(counterexample(lib("units", "back"), KINDS, "cut length"), ((66600,), 1))

    def test_parts_and_points_by_unit_and_store(self):
        moved, apart = ((101, 769), (803,)), ((101,), (769,))
        cases = (
            # unit, store, for "first part" and "last part", for "points add"
            ("clusters", "kept", apart, None), ("clusters", "composed", apart, apart),
            ("clusters", "decomposed", apart, moved),
        ) + tuple(
            (unit, store, told, told) for unit in ("bytes", "points", "units")
            for store, told in (("kept", None), ("composed", apart), ("decomposed", moved))
        )
        for unit, store, part, points in cases:
            for library in [library for library in all_libraries() if (library[0], library[3]) == (unit, store)]:
                with self.subTest(library):
                    self.assertEqual(counterexample(library, KINDS, "first part"), part)
                    self.assertEqual(counterexample(library, ("marks",), "last part"), part)
                    self.assertEqual(counterexample(library, ("marks", "wide"), "points add"), points)

    def test_the_other_rules(self):
        accents, apart = ((233,), (101, 769)), ((101,), (769,))
        told = {
            "lengths add": apart, "reverse of sum": apart, "reversed twice": ((769, 101),),
            "reversed length": ((769, 101),), "equal parts": accents + (1,), "equal lengths": accents,
            "equal reversed": accents, "equal means same": accents, "equivalent means equal": accents,
            "upper length": ((223,),), "lower of upper": ((223,),),
        }
        for rule, kinds, library in itertools.product(told, ALL_KINDS, all_libraries()):
            expected = None if rule_holds(library, kinds, rule) else told[rule]
            self.assertEqual(counterexample(library, kinds, rule), expected, (library, kinds, rule))


class ErrorsTest(unittest.TestCase):
    def test_bad_libraries_come_first(self):
        for function, library in itertools.product((holds, counterexample), NO_LIBRARIES):
            for kinds, rule in (((), "cancel"), (("wide", "marks"), "cancel"), (None, None), ((), "Cancel")):
                with self.subTest((function.__name__, library, kinds, rule)):
                    self.assertRaises(BadLibrary, function, library, kinds, rule)

    def test_bad_kinds_come_before_bad_rules(self):
        for function, kinds in itertools.product((holds, counterexample), NO_KINDS):
            for rule in ("cancel", "Cancel", None, []):
                with self.subTest((function.__name__, kinds, rule)):
                    self.assertRaises(BadKinds, function, lib(), kinds, rule)

    def test_bad_rules(self):
        for function, rule in itertools.product((holds, counterexample), NO_RULES):
            for kinds in ((), KINDS):
                with self.subTest((function.__name__, rule)):
                    self.assertRaises(BadRule, function, lib(), kinds, rule)

    def test_arguments_are_not_modified(self):
        library, kinds, rule = list(lib()), ["wide", "marks"], ["cancel"]
        for function in (holds, counterexample):
            self.assertRaises(BadLibrary, function, library, kinds, rule)
            self.assertRaises(BadKinds, function, lib(), kinds, rule)
            self.assertRaises(BadRule, function, lib(), (), rule)
        self.assertEqual((library, kinds, rule), (list(lib()), ["wide", "marks"], ["cancel"]))


class InterfaceTest(unittest.TestCase):
    def test_functions_are_defined_in_the_file(self):
        for name in ("holds", "counterexample"):
            self.assertEqual(getattr(decisions, name).__module__, "stringheld.decisions")


if __name__ == "__main__":
    unittest.main()
