import copy
import itertools
import re
import unittest

from samples import DESK, NO_LIBRARIES, NO_RAW_TEXTS, NO_TUPLES, lib
from stringheld import libraries
from stringheld.errors import BadLibrary, BadPlace, BadText, TextError
from stringheld.letters import compose, decompose
from stringheld.libraries import all_libraries, cut, equal, is_library, is_text, join, length
from stringheld.libraries import lower, reverse, stored, upper

UNITS = ("bytes", "clusters", "points", "units")
STORES = ("composed", "decomposed", "kept")
CASES = ("full", "simple")
POINTS = (65, 69, 83, 97, 101, 115, 201, 223, 233, 769, 803, 7864, 7865, 66560, 66600)
CAPITALS = {97: 65, 101: 69, 115: 83, 233: 201, 7865: 7864, 66600: 66560}
NO_PLACES = (-1, -10 ** 30, 10 ** 30, True, False, None, "", "0", (), (0,), [], [0], {}, {0: 0}, DESK)


def texts_of(library, points=(83, 101, 223, 769, 803, 7865, 66600), longest=3):
    products = [itertools.product(points, repeat=many) for many in range(longest + 1)]
    return [text for texts in products for text in texts if is_text(library, text)]


def string(text):
    return "".join(chr(point) for point in text)


def clusters(text):
    found = re.findall("^[\u0301\u0323]+|[^\u0301\u0323][\u0301\u0323]*", string(text))
    return [tuple(ord(sign) for sign in cluster) for cluster in found]


def parts_and_counts(library, text):
    """The counted parts and what they count, by Python's own strings."""
    if library[0] == "clusters":
        return clusters(text), [1] * len(clusters(text))
    code, size = {"bytes": ("utf-8", 1), "units": ("utf-16-le", 2), "points": ("utf-32-le", 4)}[library[0]]
    return [(point,) for point in text], [len(chr(point).encode(code)) // size for point in text]


def cut_by_the_words(library, text, place):
    parts, counts = parts_and_counts(library, text)
    many = max(many for many in range(len(parts) + 1) if sum(counts[:many]) <= place)
    if sum(counts[:many]) < place and library[1] == "refuse":
        return "refused"
    return tuple(sum(parts[:many], ())), tuple(sum(parts[many:], ()))


class LibrariesTest(unittest.TestCase):
    def test_all_libraries(self):
        found = all_libraries()
        self.assertIs(type(found), tuple)
        self.assertEqual((len(found), len(set(found))), (96, 96))
        self.assertEqual(found, tuple(sorted(found)))
        self.assertEqual(found[0], ("bytes", "back", "canonical", "composed", "full"))
        self.assertEqual(found[-1], ("units", "refuse", "points", "kept", "simple"))

    def test_each_word_makes_a_library(self):
        words = (UNITS, ("back", "refuse"), ("canonical", "points"), STORES, CASES)
        self.assertEqual(sorted(itertools.product(*words)), list(all_libraries()))
        for library in itertools.product(*words):
            self.assertIs(is_library(library), True)

    def test_other_values_are_no_libraries(self):
        for value in NO_LIBRARIES:
            with self.subTest(value):
                self.assertIs(is_library(value), False)

    def test_words_stand_in_their_own_place_only(self):
        words = sorted({word for library in all_libraries() for word in library} | {"", "other"})
        known = set(all_libraries())
        for at in range(5):
            for word in words:
                value = lib()[:at] + (word,) + lib()[at + 1:]
                self.assertIs(is_library(value), value in known, value)


class StoredTest(unittest.TestCase):
    def test_stored(self):
        cases = (
            ((), (), ()), ((97, 223), (97, 223), (97, 223)), ((101, 769), (233,), (101, 769)),
            ((233,), (233,), (101, 769)), ((233, 803), (7865, 769), (101, 803, 769)),
            ((97, 769, 803), (97, 803, 769), (97, 803, 769)), ((769, 803), (803, 769), (803, 769)),
        )
        for text, composed, decomposed in cases:
            with self.subTest(text):
                self.assertEqual(stored(lib(store="composed"), text), composed)
                self.assertEqual(stored(lib(store="decomposed"), text), decomposed)
                self.assertEqual(stored(lib(store="kept"), text), text)

    def test_stored_takes_raw_texts_and_may_be_longer(self):
        self.assertEqual(stored(lib(store="decomposed"), (233,) * 20), (101, 769) * 20)
        self.assertEqual(stored(lib(store="composed"), (101, 769) * 10), (233,) * 10)

    def test_is_text(self):
        cases = (
            ((), True, True), ((97, 223, 66600), True, True), ((101, 769), False, True), ((233,), True, False),
            ((7865, 769), True, False), ((101, 803, 769), False, True), ((233, 803), False, False),
            ((97, 769), True, True), ((97, 769, 803), False, False), ((769,), True, True), ((803, 769), True, True),
            ((769, 803), False, False), ((97,) * 20, True, True),
        )
        for text, composed, decomposed in cases:
            with self.subTest(text):
                self.assertIs(is_text(lib(store="composed"), text), composed)
                self.assertIs(is_text(lib(store="decomposed"), text), decomposed)
                self.assertIs(is_text(lib(store="kept"), text), True)

    def test_other_values_are_no_texts(self):
        for store in STORES:
            for value in NO_RAW_TEXTS:
                with self.subTest((store, value)):
                    self.assertIs(is_text(lib(store=store), value), False)

    def test_a_form_of_more_than_20_points_is_no_text(self):
        self.assertIs(is_text(lib(store="decomposed"), (101, 769) * 10), True)
        self.assertIs(is_text(lib(store="decomposed"), (101, 769) * 10 + (97,)), False)


class LengthTest(unittest.TestCase):
    def test_length(self):
        cases = (
            # text, bytes, clusters, points, units
            ((), 0, 0, 0, 0), ((97,), 1, 1, 1, 1), ((233,), 2, 1, 1, 1), ((769,), 2, 1, 1, 1), ((7865,), 3, 1, 1, 1),
            ((223,), 2, 1, 1, 1), ((66560,), 4, 1, 1, 2), ((97, 233, 7865, 66600), 10, 4, 4, 5),
            ((101, 769), 3, 1, 2, 2), ((769, 803), 4, 1, 2, 2), ((769, 101, 803, 803), 7, 2, 4, 4),
            ((66600, 769, 66600), 10, 2, 3, 5), ((97, 101, 83), 3, 3, 3, 3), ((66600,) * 20, 80, 20, 20, 40),
        )
        for text, *lengths in cases:
            for unit, told in zip(UNITS, lengths):
                with self.subTest((unit, text)):
                    self.assertEqual(length(lib(unit), text), told)

    def test_each_point_counts_as_in_pythons_own_strings(self):
        for unit in UNITS:
            for point in POINTS:
                counts = parts_and_counts(lib(unit), (point,))[1]
                self.assertEqual(length(lib(unit), (point,)), sum(counts), (unit, point))


class CutTest(unittest.TestCase):
    def test_cut_within_a_part(self):
        cases = (
            # unit, text, place, first, rest
            ("bytes", (233,), 1, (), (233,)), ("bytes", (97, 769), 2, (97,), (769,)),
            ("bytes", (7865, 97), 1, (), (7865, 97)), ("bytes", (7865, 97), 2, (), (7865, 97)),
            ("bytes", (97, 66600, 97), 4, (97,), (66600, 97)), ("bytes", (233, 223, 97), 3, (233,), (223, 97)),
            ("units", (66560,), 1, (), (66560,)), ("units", (97, 66600, 97), 2, (97,), (66600, 97)),
            ("units", (66600, 66600), 3, (66600,), (66600,)),
        )
        for unit, text, place, first, rest in cases:
            with self.subTest((unit, text, place)):
                self.assertEqual(cut(lib(unit, "back"), text, place), (first, rest))
                self.assertEqual(cut(lib(unit, "refuse"), text, place), "refused")

    def test_cut_between_parts(self):
        cases = (
            ("bytes", (), 0, (), ()), ("bytes", (233,), 0, (), (233,)), ("bytes", (233,), 2, (233,), ()),
            ("bytes", (7865, 97), 3, (7865,), (97,)), ("bytes", (97, 66600, 97), 5, (97, 66600), (97,)),
            ("points", (101, 769), 1, (101,), (769,)), ("points", (66600, 223), 2, (66600, 223), ()),
            ("units", (97, 66600, 97), 3, (97, 66600), (97,)), ("units", (101, 769), 1, (101,), (769,)),
            ("clusters", (101, 769), 1, (101, 769), ()), ("clusters", (101, 769, 97), 0, (), (101, 769, 97)),
            ("clusters", (769, 803, 101, 769, 97), 1, (769, 803), (101, 769, 97)),
            ("clusters", (769, 803, 101, 769, 97), 2, (769, 803, 101, 769), (97,)), ("clusters", (), 0, (), ()),
        )
        for unit, text, place, first, rest in cases:
            for cuts in ("back", "refuse"):
                with self.subTest((unit, cuts, text, place)):
                    self.assertEqual(cut(lib(unit, cuts), text, place), (first, rest))

    def test_cut_does_what_the_words_say(self):
        for unit, cuts, store in itertools.product(UNITS, ("back", "refuse"), STORES):
            library = lib(unit, cuts, store=store)
            for text in texts_of(library):
                whole = sum(parts_and_counts(library, text)[1])
                self.assertEqual(length(library, text), whole)
                for place in range(whole + 1):
                    told = cut_by_the_words(library, text, place)
                    self.assertEqual(cut(library, text, place), told, (library, text, place))

    def test_bad_places(self):
        for unit, cuts in itertools.product(UNITS, ("back", "refuse")):
            library = lib(unit, cuts)
            for text in ((), (97,), (233, 769, 66600)):
                for place in NO_PLACES + (length(library, text) + 1,):
                    with self.subTest((unit, cuts, text, place)):
                        self.assertRaises(BadPlace, cut, library, text, place)

    def test_booleans_are_no_places_where_0_and_1_are(self):
        self.assertEqual(cut(lib(), (97,), 0), ((), (97,)))
        self.assertEqual(cut(lib(), (97,), 1), ((97,), ()))
        self.assertRaises(BadPlace, cut, lib(), (97,), False)
        self.assertRaises(BadPlace, cut, lib(), (97,), True)


class JoinTest(unittest.TestCase):
    def test_join(self):
        cases = (
            # one, other, kept, decomposed, composed
            ((), (), (), (), ()), ((97,), (), (97,), (97,), (97,)), ((), (97,), (97,), (97,), (97,)),
            ((97, 83), (66600,), (97, 83, 66600), (97, 83, 66600), (97, 83, 66600)),
            ((101,), (769,), (101, 769), (101, 769), (233,)), ((101,), (803, 769), (101, 803, 769),
                                                               (101, 803, 769), (7865, 769)),
            ((97, 769), (803,), (97, 769, 803), (97, 803, 769), (97, 803, 769)),
            ((769,), (803,), (769, 803), (803, 769), (803, 769)),
        )
        for one, other, *sums in cases:
            for store, told in zip(("kept", "decomposed", "composed"), sums):
                with self.subTest((store, one, other)):
                    self.assertEqual(join(lib(store=store), one, other), told)

    def test_join_recomposes(self):
        self.assertEqual(join(lib(store="composed"), (233,), (803,)), (7865, 769))
        self.assertEqual(join(lib(store="decomposed"), (101, 769), (803,)), (101, 803, 769))

    def test_join_may_have_more_than_20_points(self):
        for store in STORES:
            self.assertEqual(join(lib(store=store), (97,) * 20, (83,) * 20), (97,) * 20 + (83,) * 20)
        library = lib(store="decomposed")
        self.assertEqual(join(library, (97,) + (769,) * 19, (803,) * 20), (97,) + (803,) * 20 + (769,) * 19)
        self.assertEqual(join(lib(store="composed"), (233,) * 20, (803,) * 20), (233,) * 19 + (7865,) + (803,) * 19
                         + (769,))


class EqualTest(unittest.TestCase):
    def test_equal(self):
        cases = (
            # one, other, with "points", with "canonical"
            ((), (), True, True), ((97,), (97,), True, True), ((97,), (65,), False, False),
            ((233,), (101, 769), False, True), ((101, 769, 803), (7865, 769), False, True),
            ((769, 803), (803, 769), False, True), ((223,), (115, 115), False, False), ((97,), (97, 97), False, False),
            ((101, 769), (769, 101), False, False),
        )
        for one, other, same, canonical in cases:
            with self.subTest((one, other)):
                self.assertIs(equal(lib(equality="points"), one, other), same)
                self.assertIs(equal(lib(equality="canonical"), one, other), canonical)

    def test_equal_at_20_points(self):
        self.assertIs(equal(lib(equality="canonical"), (233,) * 20, (233,) * 20), True)
        self.assertIs(equal(lib(equality="canonical"), (101, 769) * 10, (233,) * 10), True)
        self.assertIs(equal(lib(equality="points"), (101, 769) * 10, (233,) * 10), False)


class ReverseTest(unittest.TestCase):
    def test_reverse_points(self):
        for unit in ("bytes", "points", "units"):
            for text in ((), (97,), (97, 101, 769), (769, 101), (66600, 223, 233)):
                with self.subTest((unit, text)):
                    self.assertEqual(reverse(lib(unit), text), text[::-1])

    def test_reverse_clusters(self):
        cases = (
            ((), ()), ((97, 101, 769), (101, 769, 97)), ((101, 769, 803, 97), (97, 101, 769, 803)),
            ((769, 803, 97), (97, 769, 803)), ((769, 101, 803), (101, 803, 769)), ((769, 803), (769, 803)),
        )
        for text, told in cases:
            with self.subTest(text):
                self.assertEqual(reverse(lib("clusters"), text), told)

    def test_reverse_is_stored_anew(self):
        self.assertEqual(reverse(lib(store="composed"), (769, 101)), (233,))
        self.assertEqual(reverse(lib("clusters", store="composed"), (769, 101)), (233,))
        self.assertEqual(reverse(lib("clusters", store="composed"), (769, 7865)), (7865, 769))
        self.assertEqual(reverse(lib(store="decomposed"), (101, 803, 769)), (803, 769, 101))
        self.assertEqual(reverse(lib(store="decomposed"), (769, 97, 803)), (803, 97, 769))
        self.assertEqual(reverse(lib("clusters", store="decomposed"), (769, 97, 803)), (97, 803, 769))


class CaseTest(unittest.TestCase):
    def test_each_point(self):
        smalls = {capital: small for small, capital in CAPITALS.items()}
        for point in POINTS:
            with self.subTest(point):
                capital = CAPITALS.get(point, point)
                self.assertEqual(upper(lib(case="full"), (point,)), (83, 83) if point == 223 else (capital,))
                self.assertEqual(upper(lib(case="simple"), (point,)), (capital,))
                for case in CASES:
                    self.assertEqual(lower(lib(case=case), (point,)), (smalls.get(point, point),))

    def test_full_capitals_are_those_of_pythons_own_strings(self):
        for point in POINTS:
            if point != 223:
                self.assertEqual(string(upper(lib(), (point,))), chr(point).upper())
                self.assertEqual(string(lower(lib(), (point,))), chr(point).lower())
        self.assertEqual(string(upper(lib(), (223,))), chr(223).upper())

    def test_several_points(self):
        text = (97, 223, 769, 101, 803, 66600, 65)
        self.assertEqual(upper(lib(case="full"), text), (65, 83, 83, 769, 69, 803, 66560, 65))
        self.assertEqual(upper(lib(case="simple"), text), (65, 223, 769, 69, 803, 66560, 65))
        self.assertEqual(lower(lib(), (65, 83, 83, 769, 69, 803, 66560, 97)), (97, 115, 115, 769, 101, 803, 66600, 97))
        self.assertEqual((upper(lib(), ()), lower(lib(), ())), ((), ()))

    def test_with_each_store(self):
        self.assertEqual(upper(lib(store="composed"), (7865, 769)), (7864, 769))
        self.assertEqual(lower(lib(store="composed"), (7864, 769)), (7865, 769))
        self.assertEqual(upper(lib(store="decomposed"), (101, 803, 769)), (69, 803, 769))
        self.assertEqual(lower(lib(store="decomposed"), (69, 803, 769)), (101, 803, 769))

    def test_capitals_may_have_more_than_20_points(self):
        for store in STORES:
            self.assertEqual(upper(lib(store=store), (223,) * 20), (83,) * 40)
            self.assertEqual(upper(lib(store=store, case="simple"), (223,) * 20), (223,) * 20)


class ResultsTest(unittest.TestCase):
    def test_results_are_stored(self):
        for unit, cuts, store, case in itertools.product(UNITS, ("back", "refuse"), STORES, CASES):
            library = lib(unit, cuts, store=store, case=case)
            texts = texts_of(library, longest=2)
            results = [function(library, text) for function in (reverse, upper, lower) for text in texts]
            results += [join(library, one, other) for one in texts for other in texts]
            for text in texts:
                pairs = [cut(library, text, place) for place in range(length(library, text) + 1)]
                results += [part for pair in pairs if pair != "refused" for part in pair]
            form = {"composed": compose, "decomposed": decompose, "kept": tuple}[store]
            for result in results:
                self.assertIs(type(result), tuple)
                self.assertEqual(result, form(result), (library, result))


def calls_with(library, text, place=0):
    """Calls of all functions that take a text of a library, each with its arguments."""
    return ((length, (library, text)), (cut, (library, text, place)), (join, (library, text, ())),
            (equal, (library, text, ())), (reverse, (library, text)), (upper, (library, text)),
            (lower, (library, text)))


class ErrorsTest(unittest.TestCase):
    def test_bad_libraries_come_first(self):
        for library in NO_LIBRARIES:
            for text in ((97,), None, (98,)):
                for function, arguments in calls_with(library, text, -1):
                    with self.subTest((function.__name__, arguments)):
                        self.assertRaises(BadLibrary, function, *arguments)
                with self.subTest(("stored", library, text)):
                    self.assertRaises(BadLibrary, stored, library, text)
                    self.assertRaises(BadLibrary, is_text, library, text)
                    self.assertRaises(BadLibrary, join, library, (), text)
                    self.assertRaises(BadLibrary, equal, library, (), text)

    def test_bad_texts_come_before_bad_places(self):
        for text in NO_RAW_TEXTS:
            for function, arguments in calls_with(lib(), text, -1):
                with self.subTest((function.__name__, arguments)):
                    self.assertRaises(BadText, function, *arguments)
            with self.subTest(text):
                self.assertRaises(BadText, stored, lib(), text)
                for function in (join, equal):
                    self.assertRaises(BadText, function, lib(), (), text)
                    self.assertRaises(BadText, function, lib(), text, text)

    def test_raw_texts_that_are_not_stored_so_are_bad_texts(self):
        wrong = {"composed": ((101, 769), (233, 803), (769, 803), (97, 769, 803)),
                 "decomposed": ((233,), (101, 769, 803), (7865, 769), (769, 803))}
        for store, texts in wrong.items():
            for text in texts:
                for function, arguments in calls_with(lib(store=store), text, -1):
                    with self.subTest((function.__name__, arguments)):
                        self.assertRaises(BadText, function, *arguments)
                with self.subTest((store, text)):
                    self.assertRaises(BadText, join, lib(store=store), (), text)
                    self.assertRaises(BadText, equal, lib(store=store), (), text)
                    self.assertEqual(stored(lib(store="kept"), text), text)

    def test_arguments_are_not_modified(self):
        given = ([97, 769, 803], {"unit": "points"}, ["points", "refuse", "points", "kept", "full"], ([97],))
        before = copy.deepcopy(given)
        for value in given:
            for function, arguments in calls_with(value, value, value) + calls_with(lib(), value, value):
                self.assertRaises(TextError, function, *arguments)
            self.assertRaises(BadPlace, cut, lib(), (97,), value)
            self.assertRaises(BadText, stored, lib(), value)
            self.assertIs(is_library(value), False)
            self.assertIs(is_text(lib(), value), False)
        self.assertEqual(given, before)


class InterfaceTest(unittest.TestCase):
    def test_functions_are_defined_in_the_file(self):
        for name in ("is_library", "all_libraries", "stored", "is_text", "length", "cut", "join", "equal", "reverse",
                     "upper", "lower"):
            self.assertEqual(getattr(libraries, name).__module__, "stringheld.libraries")

    def test_is_library_takes_any_value(self):
        for value in NO_TUPLES:
            self.assertIs(is_library(value), False)


if __name__ == "__main__":
    unittest.main()
