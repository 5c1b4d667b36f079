import copy
import unittest

from samples import DESK, NO_LIBRARIES, NO_RAW_TEXTS, NO_RULES, NO_TUPLES, lib
from stringheld import rules as rules_file
from stringheld.errors import BadArguments, BadLibrary, BadRule
from stringheld.libraries import all_libraries
from stringheld.rules import holds_for, rules, shape

SHAPES = (
    ("lengths add", ("text", "text")),
    ("points add", ("text", "text")),
    ("every place", ("text", "place")),
    ("cut length", ("text", "place")),
    ("cut and join", ("text", "place")),
    ("part of part", ("text", "place", "place")),
    ("first part", ("text", "text")),
    ("last part", ("text", "text")),
    ("equal lengths", ("text", "text")),
    ("equal parts", ("text", "text", "place")),
    ("equal reversed", ("text", "text")),
    ("equal sums", ("text", "text", "text")),
    ("equal capitals", ("text", "text")),
    ("equal means same", ("text", "text")),
    ("equivalent means equal", ("text", "text")),
    ("cancel", ("text", "text", "text")),
    ("upper length", ("text",)),
    ("upper of sum", ("text", "text")),
    ("lower of upper", ("text",)),
    ("reversed twice", ("text",)),
    ("reversed length", ("text",)),
    ("reverse of sum", ("text", "text")),
)
COMPOSED = lib(store="composed")
DECOMPOSED = lib(store="decomposed")
CLUSTERS = lib("clusters")
CANONICAL = lib(equality="canonical")
CANONICAL_CLUSTERS = lib("clusters", equality="canonical")
BYTES = lib("bytes")
BYTES_BACK = lib("bytes", "back")
UNITS = lib("units")
UNITS_BACK = lib("units", "back")
ACCENTS = ((233,), (101, 769))
APART = ((101,), (769,))


class RulesTest(unittest.TestCase):
    def check(self, rule, holding, failing):
        for told, cases in ((True, holding), (False, failing)):
            for library, arguments in cases:
                with self.subTest((rule, library, arguments)):
                    self.assertIs(holds_for(library, rule, arguments), told)

    def test_lengths_add(self):
        self.check("lengths add", (
            (lib(), APART), (BYTES, APART), (UNITS, ((66600,), (97,))), (DECOMPOSED, APART),
            (CLUSTERS, ((97,), (101, 769))), (COMPOSED, ((97,), (769,))), (COMPOSED, ((), ())),
        ), (
            (CLUSTERS, APART), (COMPOSED, APART), (lib("bytes", store="composed"), APART),
            (CLUSTERS, ((769,), (769,))), (COMPOSED, ((97, 101), (769, 97))),
        ))

    def test_points_add(self):
        self.check("points add", (
            (lib(), APART), (CLUSTERS, APART), (DECOMPOSED, APART), (COMPOSED, ((97,), (769,))),
            (COMPOSED, ((), (233,))), (lib(), ((101, 769), (803,))),
        ), (
            (COMPOSED, APART), (DECOMPOSED, ((101, 769), (803,))), (CANONICAL[:3] + COMPOSED[3:], APART),
            (lib(equality="canonical", store="decomposed"), ((97, 769), (803,))),
        ))

    def test_every_place(self):
        self.check("every place", (
            (BYTES, ((233,), 0)), (BYTES, ((233,), 2)), (BYTES_BACK, ((233,), 1)), (UNITS_BACK, ((66600,), 1)),
            (lib(), ((66600,), 1)), (CLUSTERS, ((101, 769), 1)), (BYTES, ((), 0)), (UNITS, ((66600, 97), 2)),
        ), (
            (BYTES, ((233,), 1)), (BYTES, ((769,), 1)), (BYTES, ((97, 223), 2)), (BYTES, ((66600,), 3)),
            (UNITS, ((66600,), 1)),
        ))

    def test_cut_length(self):
        self.check("cut length", (
            (BYTES, ((233,), 0)), (BYTES, ((233,), 2)), (lib(), ((66600, 97), 1)), (CLUSTERS, ((101, 769, 97), 1)),
            (UNITS, ((97, 66600), 3)), (COMPOSED, ((7865, 769), 1)),
        ), (
            (BYTES_BACK, ((769,), 1)), (BYTES, ((769,), 1)), (BYTES_BACK, ((66600,), 3)), (UNITS_BACK, ((66600,), 1)),
            (UNITS, ((66600,), 1)),
        ))

    def test_cut_and_join(self):
        self.check("cut and join", (
            (lib(), ((97, 101), 1)), (BYTES_BACK, ((233,), 1)), (BYTES, ((233,), 1)), (UNITS, ((66600,), 1)),
            (COMPOSED, ((7865, 769), 1)), (DECOMPOSED, ((101, 803, 769), 2)), (CLUSTERS, ((769, 101, 769), 1)),
            (lib(), ((), 0)),
        ), ())

    def test_part_of_part(self):
        self.check("part of part", (
            (lib(), ((97, 101, 83), 2, 1)), (lib(), ((97, 101), 2, 2)), (lib(), ((97, 101), 0, 0)),
            (lib(), ((97, 101), 0, 1)), (BYTES, ((233, 97), 1, 0)), (BYTES, ((233, 97), 2, 1)),
            (BYTES_BACK, ((97, 223), 2, 2)), (BYTES_BACK, ((97, 223), 3, 2)), (BYTES_BACK, ((66600, 97), 4, 3)),
            (CLUSTERS, ((101, 769, 97), 2, 1)), (COMPOSED, ((7865, 769), 2, 1)),
        ), ())

    def test_part_of_part_needs_no_cut_with_j_greater_than_i(self):
        self.check("part of part", ((lib(), ((97,), 0, 1)), (BYTES, ((233,), 0, 1)), (BYTES, ((233,), 1, 2))), ())

    def test_first_part(self):
        self.check("first part", (
            (lib(), APART), (BYTES, ((233,), (769,))), (CLUSTERS, ((101, 769), (97,))), (COMPOSED, ((97,), (769,))),
            (DECOMPOSED, APART), (CANONICAL, ((233, 769), (803,))), (lib(), ((), (97,))), (lib(), ((97,), ())),
        ), (
            (CLUSTERS, APART), (COMPOSED, APART), (DECOMPOSED, ((101, 769), (803,))),
            (lib("bytes", "refuse", store="composed"), APART), (lib("bytes", "back", store="composed"), APART),
        ))

    def test_last_part(self):
        self.check("last part", (
            (lib(), APART), (BYTES, ((233,), (769,))), (CLUSTERS, ((101, 769), (97,))), (COMPOSED, ((97,), (769,))),
            (DECOMPOSED, APART), (CANONICAL, ((233, 769), (803,))), (lib(), ((), (97,))), (lib(), ((97,), ())),
        ), (
            (CLUSTERS, APART), (COMPOSED, APART), (DECOMPOSED, ((101, 769), (803,))),
            (lib("bytes", "refuse", store="composed"), APART), (lib("bytes", "back", store="composed"), APART),
        ))

    def test_equal_lengths(self):
        self.check("equal lengths", (
            (lib(), ACCENTS), (CANONICAL_CLUSTERS, ACCENTS), (CANONICAL, ((97,), (97, 97))),
            (CANONICAL, ((97,), (97,))), (CANONICAL, ((101, 769, 803), (101, 803, 769))),
        ), (
            (CANONICAL, ACCENTS), (lib("bytes", equality="canonical"), ACCENTS),
            (CANONICAL, ((7865, 769), (101, 769, 803))),
        ))

    def test_equal_parts(self):
        bytes_refuse = lib("bytes", "refuse", "canonical")
        self.check("equal parts", (
            (lib(), ((97, 101), (97, 101), 1)), (lib(), ACCENTS + (1,)), (CANONICAL, ACCENTS + (0,)),
            (CANONICAL_CLUSTERS, ACCENTS + (1,)), (bytes_refuse, ((233,), (233,), 1)), (bytes_refuse, ACCENTS + (0,)),
            (CANONICAL, ((101, 769, 803), (101, 803, 769), 1)), (lib(), ((97,), (83,), 1)),
        ), (
            (CANONICAL, ACCENTS + (1,)), (lib("bytes", "back", "canonical"), ACCENTS + (1,)),
            (bytes_refuse, ACCENTS + (1,)), (bytes_refuse, ACCENTS + (2,)),
            (CANONICAL, ((101, 769, 803), (101, 803, 769), 2)),
            # Refused in one text alone.
            (bytes_refuse, ((233, 233), (101, 769, 101, 769), 2)),
            (bytes_refuse, ((101, 769, 101, 769), (233, 233), 3)),
        ))

    def test_equal_reversed(self):
        self.check("equal reversed", (
            (lib(), ACCENTS), (CANONICAL_CLUSTERS, ACCENTS), (CANONICAL, ((97,), (83,))), (CANONICAL, ((233,), (233,))),
            (CANONICAL, ((97, 803, 769), (97, 769, 803))),
        ), (
            (CANONICAL, ACCENTS), (lib("bytes", equality="canonical"), ((101, 803), (7865,))),
        ))

    def test_equal_sums(self):
        self.check("equal sums", (
            (lib(), ((97,), (97,), (769,))), (CANONICAL, ACCENTS + ((803,),)), (CANONICAL, ACCENTS + ((101, 769),)),
            (lib(), ACCENTS + ((803,),)), (COMPOSED, ((101,), (101,), (769,))), (lib(), ((97,), (83,), ())),
        ), ())

    def test_equal_capitals(self):
        self.check("equal capitals", (
            (CANONICAL, ACCENTS), (lib(), ACCENTS), (lib(), ((223,), (223,))), (CANONICAL, ((223, 769), (223, 769))),
            (CANONICAL, ((7865, 769), (101, 769, 803))), (lib(), ((97,), (65,))),
        ), ())

    def test_equal_means_same(self):
        self.check("equal means same", (
            (lib(), ACCENTS), (CANONICAL, ((97,), (97,))), (CANONICAL, ((97,), (83,))),
            (lib(equality="canonical", store="composed"), ((233,), (233,))),
        ), (
            (CANONICAL, ACCENTS), (CANONICAL_CLUSTERS, ACCENTS), (CANONICAL, ((769, 803), (803, 769))),
        ))

    def test_equivalent_means_equal(self):
        self.check("equivalent means equal", (
            (CANONICAL, ACCENTS), (lib(), ((97,), (97,))), (lib(), ((97,), (83,))), (COMPOSED, ((233,), (233,))),
        ), (
            (lib(), ACCENTS), (CLUSTERS, ACCENTS), (lib(), ((769, 803), (803, 769))),
        ))

    def test_cancel(self):
        self.check("cancel", (
            (lib(), ((97,), (97,), (83,))), (lib(), ((97,), (83,), (769,))), (CANONICAL, ACCENTS + ((803,),)),
            (COMPOSED, ((101,), (233,), (769,))), (DECOMPOSED, ((101, 769), (101, 769), (803,))),
        ), ())

    def test_upper_length(self):
        self.check("upper length", (
            (BYTES, ((223,),)), (lib(case="simple"), ((223,),)), (lib(), ((97, 233, 7865, 66600),)), (lib(), ((),)),
            (BYTES, ((233, 66600),)),
        ), (
            (lib(), ((223,),)), (CLUSTERS, ((223,),)), (UNITS, ((223,),)), (lib(), ((97, 223, 769),)),
        ))

    def test_upper_of_sum(self):
        self.check("upper of sum", (
            (lib(), ((223,), (97,))), (COMPOSED, APART), (DECOMPOSED, ((101, 769), (803,))),
            (CLUSTERS, ((223,), (769,))), (CANONICAL, ACCENTS),
        ), ())

    def test_lower_of_upper(self):
        self.check("lower of upper", (
            (lib(case="simple"), ((223,),)), (lib(), ((97, 69, 66560, 233, 7864),)), (lib(), ((),)),
            (DECOMPOSED, ((101, 803, 769),)),
        ), (
            (lib(), ((223,),)), (BYTES, ((97, 223),)), (CANONICAL, ((223, 769),)),
        ))

    def test_reversed_twice(self):
        self.check("reversed twice", (
            (lib(), ((769, 101),)), (CLUSTERS, ((101, 769, 97),)), (DECOMPOSED, ((769, 101),)),
            (DECOMPOSED, ((97, 803, 769),)), (COMPOSED, ((97, 101),)),
        ), (
            (CLUSTERS, ((769, 101),)), (COMPOSED, ((769, 101),)), (CANONICAL_CLUSTERS, ((769, 97),)),
            (lib("clusters", store="decomposed"), ((769, 101),)),
        ))

    def test_reversed_length(self):
        self.check("reversed length", (
            (lib(), ((769, 101),)), (CLUSTERS, ((101, 769, 97),)), (DECOMPOSED, ((769, 101),)),
            (COMPOSED, ((769, 97),)), (BYTES, ((233, 66600),)),
        ), (
            (CLUSTERS, ((769, 101),)), (COMPOSED, ((769, 101),)), (lib("bytes", store="composed"), ((769, 101),)),
        ))

    def test_reverse_of_sum(self):
        self.check("reverse of sum", (
            (lib(), APART), (DECOMPOSED, APART), (CLUSTERS, ((101, 769), (97,))), (COMPOSED, ((97,), (769,))),
            (DECOMPOSED, ((101, 769), (803,))),
        ), (
            (CLUSTERS, APART), (COMPOSED, APART), (CANONICAL_CLUSTERS, APART),
        ))

    def test_results_of_more_than_20_points(self):
        self.check("upper of sum", ((lib(), ((223,) * 6, (223,) * 6)), (CANONICAL, ((223,) * 6, (223,) * 6))), ())
        self.check("equal sums", ((CANONICAL, ((233,) * 6, (233,) * 6, (7865,) * 6)),), ())
        self.check("lengths add", ((DECOMPOSED, ((101, 769) * 3, (101, 803, 769) * 2)),), ())


class ShapesTest(unittest.TestCase):
    def test_rules(self):
        self.assertEqual(rules(), tuple(rule for rule, _ in SHAPES))
        self.assertIs(type(rules()), tuple)

    def test_shape(self):
        for rule, words in SHAPES:
            with self.subTest(rule):
                self.assertEqual(shape(rule), words)
                self.assertIs(type(shape(rule)), tuple)

    def test_bad_rules(self):
        for rule in NO_RULES:
            with self.subTest(rule):
                self.assertRaises(BadRule, shape, rule)
                self.assertRaises(BadRule, holds_for, lib(), rule, ((97,), (97,)))

    def test_each_rule_in_each_library_for_empty_texts(self):
        for library in all_libraries():
            for rule, words in SHAPES:
                arguments = tuple(() if word == "text" else 0 for word in words)
                self.assertIs(holds_for(library, rule, arguments), True, (library, rule))


class ArgumentsTest(unittest.TestCase):
    def test_too_few_and_too_many(self):
        for rule, words in SHAPES:
            right = tuple((97,) if word == "text" else 0 for word in words)
            for wrong in ((), right[:-1], right + (0,), right + ((97,),), right + right, list(right)):
                with self.subTest((rule, wrong)):
                    self.assertRaises(BadArguments, holds_for, lib(), rule, wrong)
            self.assertIs(type(holds_for(lib(), rule, right)), bool)

    def test_each_argument_of_a_wrong_kind(self):
        no_places = (-1, -10 ** 30, True, False, None, "", "0", (), (97,), [0], {0: 0}, DESK)
        for rule, words in SHAPES:
            right = tuple((97,) if word == "text" else 0 for word in words)
            for at, word in enumerate(words):
                for value in NO_RAW_TEXTS if word == "text" else no_places:
                    wrong = right[:at] + (value,) + right[at + 1:]
                    with self.subTest((rule, wrong)):
                        self.assertRaises(BadArguments, holds_for, lib(), rule, wrong)

    def test_no_tuples(self):
        for rule, _ in SHAPES:
            for value in NO_TUPLES:
                with self.subTest((rule, value)):
                    self.assertRaises(BadArguments, holds_for, lib(), rule, value)

    def test_texts_of_6_and_of_7_points(self):
        for rule, words in SHAPES:
            for at, word in enumerate(words):
                if word == "text":
                    texts = [(97,) if other == "text" else 0 for other in words]
                    texts[at] = (97,) * 6
                    self.assertIs(type(holds_for(lib(), rule, tuple(texts))), bool)
                    texts[at] = (97,) * 7
                    self.assertRaises(BadArguments, holds_for, lib(), rule, tuple(texts))

    def test_texts_that_are_not_stored_so(self):
        wrong = ((COMPOSED, (101, 769)), (COMPOSED, (769, 803)), (DECOMPOSED, (233,)), (DECOMPOSED, (101, 769, 803)))
        for library, text in wrong:
            with self.subTest((library, text)):
                self.assertRaises(BadArguments, holds_for, library, "upper length", (text,))
                self.assertRaises(BadArguments, holds_for, library, "equal lengths", ((97,), text))
                self.assertRaises(BadArguments, holds_for, library, "cut length", (text, 0))
                self.assertIs(holds_for(lib(), "cut length", (text, 0)), True)

    def test_places_0_and_1_are_not_false_and_true(self):
        self.assertIs(holds_for(lib(), "every place", ((97,), 0)), True)
        self.assertIs(holds_for(lib(), "every place", ((97,), 1)), True)
        self.assertRaises(BadArguments, holds_for, lib(), "every place", ((97,), False))
        self.assertRaises(BadArguments, holds_for, lib(), "every place", ((97,), True))

    def test_places_up_to_the_length_of_a(self):
        cases = ((lib(), (), 0), (lib(), (97,), 1), (BYTES, (233,), 2), (BYTES_BACK, (97, 66600), 5),
                 (UNITS, (66600, 97), 3), (CLUSTERS, (101, 769), 1), (DECOMPOSED, (101, 769), 2), (COMPOSED, (233,), 1))
        for library, a, longest in cases:
            for rule in ("every place", "cut length", "cut and join"):
                self.check_places(library, rule, lambda place: (a, place), longest)
            for i in range(longest + 1):
                self.check_places(library, "part of part", lambda place: (a, i, place), longest)
                self.check_places(library, "part of part", lambda place: (a, place, i), longest)

    def test_places_up_to_the_lengths_of_both(self):
        cases = ((lib(), (97,), (97, 97), 1), (lib(), (97, 97), (97,), 1), (lib(), (97, 97), (97, 83), 2),
                 (lib(), (), (97,), 0), (lib(), (97,), (), 0), (CANONICAL, (233,), (101, 769), 1),
                 (BYTES, (233,), (101, 769), 2), (BYTES, (101, 769), (233,), 2), (BYTES_BACK, (66600,), (233,), 2),
                 (UNITS, (66600,), (66600, 97), 2), (CLUSTERS, (101, 769), (97, 97), 1))
        for library, a, b, longest in cases:
            self.check_places(library, "equal parts", lambda place: (a, b, place), longest)

    def check_places(self, library, rule, arguments_at, longest):
        for place in range(longest + 1):
            with self.subTest((library, rule, arguments_at(place))):
                self.assertIs(type(holds_for(library, rule, arguments_at(place))), bool)
        for place in (longest + 1, longest + 2, 99, 10 ** 30):
            with self.subTest((library, rule, arguments_at(place))):
                self.assertRaises(BadArguments, holds_for, library, rule, arguments_at(place))

    def test_order_of_errors(self):
        for library in NO_LIBRARIES:
            with self.subTest(library):
                self.assertRaises(BadLibrary, holds_for, library, "Cancel", None)
                self.assertRaises(BadLibrary, holds_for, library, "cancel", None)
                self.assertRaises(BadLibrary, holds_for, library, "upper length", ((97,),))
        for rule in NO_RULES:
            with self.subTest(rule):
                self.assertRaises(BadRule, holds_for, lib(), rule, None)

    def test_arguments_are_not_modified(self):
        given = [[97, 101], 1]
        before = copy.deepcopy(given)
        self.assertRaises(BadArguments, holds_for, lib(), "every place", given)
        self.assertRaises(BadArguments, holds_for, lib(), "every place", tuple(given))
        self.assertRaises(BadLibrary, holds_for, given, "every place", given)
        self.assertRaises(BadRule, holds_for, lib(), given, given)
        self.assertRaises(BadRule, shape, given)
        self.assertEqual(given, before)


class InterfaceTest(unittest.TestCase):
    def test_functions_are_defined_in_the_file(self):
        for name in ("rules", "shape", "holds_for"):
            self.assertEqual(getattr(rules_file, name).__module__, "stringheld.rules")


if __name__ == "__main__":
    unittest.main()
