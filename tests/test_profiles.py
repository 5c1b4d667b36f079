import functools
import itertools
import unittest

from conditions import rule_holds
from samples import ALL_KINDS, DESK, KINDS, NO_KINDS, NO_LIBRARIES, NO_RULES, NO_TUPLES, lib
from stringheld import profiles
from stringheld.errors import BadKinds, BadLibrary, BadRule, BadRules
from stringheld.libraries import all_libraries
from stringheld.profiles import implies, libraries_with, most_rules, parting, profile
from stringheld.rules import rules

NO_SETS_OF_RULES = NO_TUPLES + (
    ("cancel", "cancel"), ("lengths add", "cancel", "lengths add"), rules() + ("cancel",), rules() + rules(),
    ("Cancel",), ("cancel", "Cancel"), ("",), ("cancel", ""), (None,), (True,), ("cancel", None), (0,), (DESK,),
    (("cancel",),), (["cancel"],), ({"cancel": True},), ("cancel", []), ["cancel"], list(rules()), "cancel",
    {"cancel": "cancel"}, ("cancel",) * 1000,
)


@functools.lru_cache(maxsize=None)
def kept_rules(library, kinds):
    return tuple([rule for rule in rules() if rule_holds(library, kinds, rule)])


def libraries_keeping(kinds, wanted):
    return tuple([library for library in sorted(all_libraries()) if set(wanted) <= set(kept_rules(library, kinds))])


def parting_libraries(kinds, one, other):
    return [library for library in all_libraries()
            if rule_holds(library, kinds, one) and not rule_holds(library, kinds, other)]


class ProfileTest(unittest.TestCase):
    def test_each_library_with_all_kinds(self):
        for library, kinds in itertools.product(all_libraries(), ALL_KINDS):
            found = profile(library, kinds)
            self.assertIs(type(found), tuple)
            self.assertEqual(found, kept_rules(library, kinds), (library, kinds))

    def test_some_profiles(self):
        self.assertEqual(profile(lib(), ()), rules())
        self.assertEqual(profile(lib(), KINDS),
                         tuple([rule for rule in rules()
                                if rule not in ("equivalent means equal", "upper length", "lower of upper")]))
        self.assertEqual(profile(lib("clusters", "refuse", "canonical"), ("marks",)), (
            "points add", "every place", "cut length", "cut and join", "part of part", "equal lengths", "equal parts",
            "equal reversed", "equal sums", "equal capitals", "equivalent means equal", "cancel", "upper length",
            "upper of sum", "lower of upper",
        ))

    def test_errors(self):
        for library in NO_LIBRARIES:
            for kinds in ((), ("wide", "marks"), None):
                with self.subTest((library, kinds)):
                    self.assertRaises(BadLibrary, profile, library, kinds)
        for kinds in NO_KINDS:
            with self.subTest(kinds):
                self.assertRaises(BadKinds, profile, lib(), kinds)


class ImpliesTest(unittest.TestCase):
    def test_all_pairs_of_rules(self):
        for kinds, one, other in itertools.product(ALL_KINDS, rules(), rules()):
            apart = parting_libraries(kinds, one, other)
            with self.subTest((kinds, one, other)):
                self.assertIs(implies(kinds, one, other), apart == [])
                self.assertEqual(parting(kinds, one, other), min(apart) if apart else None)

    def test_some_pairs(self):
        cases = (
            # kinds, one, other, the parting library
            (("marks",), "first part", "points add", None), (("marks",), "first part", "last part", None),
            (("marks",), "points add", "first part", ("clusters", "back", "canonical", "kept", "full")),
            (("marks",), "cancel", "points add", ("bytes", "back", "canonical", "composed", "full")),
            (("marks",), "equal lengths", "equal means same", ("clusters", "back", "canonical", "kept", "full")),
            (("special",), "upper length", "lower of upper", ("bytes", "back", "canonical", "composed", "full")),
            (("special",), "lower of upper", "upper length", None), ((), "cancel", "lower of upper", None),
            (("wide",), "every place", "cut length", ("bytes", "back", "canonical", "composed", "full")),
            (("wide",), "cut length", "every place", None), (("wide",), "cancel", "lengths add", None),
            (("marks",), "cut length", "every place", None),
            (KINDS, "equal means same", "equivalent means equal", ("bytes", "back", "points", "kept", "full")),
        )
        for kinds, one, other, told in cases:
            with self.subTest((kinds, one, other)):
                self.assertEqual(parting(kinds, one, other), told)
                self.assertIs(implies(kinds, one, other), told is None)

    def test_each_rule_implies_itself(self):
        for kinds, rule in itertools.product(ALL_KINDS, rules()):
            self.assertIs(implies(kinds, rule, rule), True)
            self.assertIsNone(parting(kinds, rule, rule))

    def test_bad_kinds_come_first(self):
        for function, kinds in itertools.product((implies, parting), NO_KINDS):
            for one, other in (("cancel", "cancel"), ("Cancel", "cancel"), ("cancel", None), (None, None)):
                with self.subTest((function.__name__, kinds, one, other)):
                    self.assertRaises(BadKinds, function, kinds, one, other)

    def test_bad_rules(self):
        for function, rule in itertools.product((implies, parting), NO_RULES):
            with self.subTest((function.__name__, rule)):
                self.assertRaises(BadRule, function, KINDS, rule, "cancel")
                self.assertRaises(BadRule, function, KINDS, "cancel", rule)
                self.assertRaises(BadRule, function, (), rule, rule)


class LibrariesWithTest(unittest.TestCase):
    def test_no_rules(self):
        for kinds in ALL_KINDS:
            self.assertEqual(libraries_with(kinds, ()), all_libraries())

    def test_pairs_of_rules_in_both_orders(self):
        for kinds, wanted in itertools.product(ALL_KINDS, itertools.permutations(rules(), 2)):
            found = libraries_with(kinds, wanted)
            self.assertIs(type(found), tuple)
            self.assertEqual(found, libraries_keeping(kinds, wanted), (kinds, wanted))

    def test_single_rules(self):
        for kinds, rule in itertools.product(ALL_KINDS, rules()):
            self.assertEqual(libraries_with(kinds, (rule,)), libraries_keeping(kinds, (rule,)), (kinds, rule))

    def test_rules_in_any_order(self):
        wanted = ("cut length", "equivalent means equal", "equal means same", "lower of upper", "lengths add")
        told = libraries_keeping(KINDS, wanted)
        self.assertEqual(len(told), 4)
        for order in itertools.permutations(wanted):
            self.assertEqual(libraries_with(KINDS, order), told)

    def test_all_rules(self):
        for kinds in ALL_KINDS:
            told = libraries_keeping(kinds, rules())
            self.assertEqual(libraries_with(kinds, rules()), told)
            self.assertEqual(libraries_with(kinds, rules()[::-1]), told)
        self.assertEqual(libraries_with((), rules()), all_libraries())
        self.assertEqual(libraries_with(KINDS, rules()), ())

    def test_bad_kinds_come_first(self):
        for kinds in NO_KINDS:
            for wanted in ((), ("cancel",), ("cancel", "cancel"), None, ["cancel"]):
                with self.subTest((kinds, wanted)):
                    self.assertRaises(BadKinds, libraries_with, kinds, wanted)

    def test_bad_rules(self):
        for wanted in NO_SETS_OF_RULES:
            with self.subTest(wanted):
                self.assertRaises(BadRules, libraries_with, KINDS, wanted)
                self.assertRaises(BadRules, libraries_with, (), wanted)

    def test_arguments_are_not_modified(self):
        kinds, wanted = ["wide", "marks"], ["lengths add", "cancel", ["cancel"]]
        self.assertRaises(BadRules, libraries_with, (), wanted)
        self.assertRaises(BadRules, libraries_with, (), tuple(wanted))
        for arguments in ((libraries_with, kinds, wanted), (most_rules, kinds), (implies, kinds, wanted, wanted),
                          (parting, kinds, wanted, wanted), (profile, lib(), kinds)):
            self.assertRaises(BadKinds, *arguments)
        self.assertRaises(BadRule, implies, (), wanted, wanted)
        self.assertEqual((kinds, wanted), (["wide", "marks"], ["lengths add", "cancel", ["cancel"]]))


class MostRulesTest(unittest.TestCase):
    def test_most_rules(self):
        for kinds in ALL_KINDS:
            many = {library: len(kept_rules(library, kinds)) for library in all_libraries()}
            told = tuple(sorted([library for library in many if many[library] == max(many.values())]))
            found = most_rules(kinds)
            self.assertIs(type(found), tuple)
            self.assertEqual(found, told, kinds)

    def test_some_answers(self):
        self.assertEqual(most_rules(()), all_libraries())
        # Of the libraries that keep all rules for wide points, none counts bytes or units.
        self.assertEqual(most_rules(("wide",)),
                         tuple([library for library in all_libraries() if library[0] in ("clusters", "points")]))
        self.assertEqual(len(most_rules(("special",))), 36)

    def test_bad_kinds(self):
        for kinds in NO_KINDS:
            with self.subTest(kinds):
                self.assertRaises(BadKinds, most_rules, kinds)


class InterfaceTest(unittest.TestCase):
    def test_functions_are_defined_in_the_file(self):
        for name in ("profile", "implies", "parting", "libraries_with", "most_rules"):
            self.assertEqual(getattr(profiles, name).__module__, "stringheld.profiles")


if __name__ == "__main__":
    unittest.main()
