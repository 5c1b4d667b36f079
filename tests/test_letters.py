import itertools
import unicodedata
import unittest

from samples import NO_KINDS, NO_RAW_TEXTS
from stringheld import letters
from stringheld.errors import BadKinds, BadText
from stringheld.letters import compose, decompose, equivalent, points_of

POINTS = (65, 69, 83, 97, 101, 115, 201, 223, 233, 769, 803, 7864, 7865, 66560, 66600)
MARKED = (97, 69, 101, 769, 803, 201, 233, 7864, 7865)
PAIRS = {(69, 769): 201, (101, 769): 233, (69, 803): 7864, (101, 803): 7865}


def texts(points, longest):
    return [text for many in range(longest + 1) for text in itertools.product(points, repeat=many)]


def string(text):
    return "".join(chr(point) for point in text)


def composed_by_the_words(text):
    """The composed form, step by step as the document tells it."""
    form = []
    for point in decompose(text):
        bases = [at for at, earlier in enumerate(form) if earlier not in (769, 803)]
        between = form[bases[-1] + 1:] if bases else []
        hindered = point in between or 769 in between
        if bases and not hindered and (form[bases[-1]], point) in PAIRS:
            form[bases[-1]] = PAIRS[form[bases[-1]], point]
        else:
            form.append(point)
    return tuple(form)


class PointsOfTest(unittest.TestCase):
    def test_each_set_of_kinds(self):
        cases = {
            (): (65, 69, 83, 97, 101, 115),
            ("marks",): (65, 69, 83, 97, 101, 115, 201, 233, 769, 803, 7864, 7865),
            ("special",): (65, 69, 83, 97, 101, 115, 223),
            ("wide",): (65, 69, 83, 97, 101, 115, 66560, 66600),
            ("marks", "special"): (65, 69, 83, 97, 101, 115, 201, 223, 233, 769, 803, 7864, 7865),
            ("marks", "wide"): (65, 69, 83, 97, 101, 115, 201, 233, 769, 803, 7864, 7865, 66560, 66600),
            ("special", "wide"): (65, 69, 83, 97, 101, 115, 223, 66560, 66600),
            ("marks", "special", "wide"): POINTS,
        }
        for kinds, points in cases.items():
            with self.subTest(kinds):
                found = points_of(kinds)
                self.assertEqual(found, points)
                self.assertIs(type(found), tuple)

    def test_bad_kinds(self):
        for kinds in NO_KINDS:
            with self.subTest(kinds):
                self.assertRaises(BadKinds, points_of, kinds)


class FormsTest(unittest.TestCase):
    def test_decompose(self):
        cases = (
            ((), ()), ((97, 223, 66600), (97, 223, 66600)),
            ((201,), (69, 769)), ((233,), (101, 769)), ((7864,), (69, 803)), ((7865,), (101, 803)),
            ((233, 803), (101, 803, 769)), ((7865, 769), (101, 803, 769)),
            ((97, 769, 803, 769, 803), (97, 803, 803, 769, 769)), ((769, 803, 97), (803, 769, 97)),
            ((97, 769, 83, 803), (97, 769, 83, 803)), ((769, 97, 769, 803), (769, 97, 803, 769)),
            ((201, 769, 803, 233, 803), (69, 803, 769, 769, 101, 803, 769)), ((769, 7865), (769, 101, 803)),
        )
        for text, form in cases:
            with self.subTest(text):
                self.assertEqual(decompose(text), form)

    def test_decompose_is_the_canonical_decomposition_of_unicode(self):
        for text in texts(MARKED, 4) + texts(POINTS, 3):
            told = tuple(ord(sign) for sign in unicodedata.normalize("NFD", string(text)))
            self.assertEqual(decompose(text), told, text)

    def test_compose(self):
        cases = (
            ((), ()), ((97, 223, 66600), (97, 223, 66600)),
            ((69, 769), (201,)), ((101, 769), (233,)), ((69, 803), (7864,)), ((101, 803), (7865,)),
            ((101, 803, 769), (7865, 769)), ((101, 769, 803), (7865, 769)), ((233, 803), (7865, 769)),
            ((201, 803), (7864, 769)), ((233,), (233,)), ((7865, 769), (7865, 769)),
            ((97, 769), (97, 769)), ((65, 803), (65, 803)), ((83, 769), (83, 769)), ((223, 769), (223, 769)),
            ((97, 769, 803), (97, 803, 769)), ((66560, 769, 803, 769), (66560, 803, 769, 769)),
            ((769,), (769,)), ((769, 803), (803, 769)), ((769, 101), (769, 101)), ((803, 101, 803), (803, 7865)),
            ((101, 769, 769), (233, 769)), ((101, 803, 803), (7865, 803)),
            ((101, 769, 803, 769, 803), (7865, 803, 769, 769)), ((233, 769, 803), (7865, 769, 769)),
            ((101, 97, 769), (101, 97, 769)), ((101, 769, 101, 803), (233, 7865)), ((101, 769, 69), (233, 69)),
        )
        for text, form in cases:
            with self.subTest(text):
                self.assertEqual(compose(text), form)

    def test_compose_does_what_the_words_say(self):
        for text in texts(MARKED, 4) + texts((101, 769, 803, 233), 6):
            self.assertEqual(compose(text), composed_by_the_words(text), text)

    def test_texts_of_20_points_and_longer_forms(self):
        self.assertEqual(decompose((233,) * 20), (101, 769) * 20)
        self.assertEqual(compose((101, 769) * 10), (233,) * 10)
        self.assertEqual(compose((233,) * 20), (233,) * 20)
        self.assertEqual(decompose((97,) + (769,) * 10 + (803,) * 9), (97,) + (803,) * 9 + (769,) * 10)
        self.assertTrue(equivalent((233,) * 20, (233,) * 20))
        self.assertTrue(equivalent((101, 769) * 10, (233,) * 10))

    def test_bad_texts(self):
        for function in (decompose, compose):
            for value in NO_RAW_TEXTS:
                with self.subTest((function.__name__, value)):
                    self.assertRaises(BadText, function, value)

    def test_texts_of_21_points(self):
        for value in ((97,) * 21, (233,) * 21, (101, 769) * 10 + (97,)):
            with self.subTest(value):
                self.assertRaises(BadText, decompose, value)
                self.assertRaises(BadText, compose, value)
                self.assertRaises(BadText, equivalent, value, value)

    def test_results_are_tuples(self):
        for text in ((), (97,), (233, 803)):
            self.assertIs(type(decompose(text)), tuple)
            self.assertIs(type(compose(text)), tuple)


class EquivalentTest(unittest.TestCase):
    def test_equivalent(self):
        same = (((), ()), ((233,), (101, 769)), ((101, 769), (233,)), ((233, 803), (7865, 769)),
                ((101, 769, 803), (101, 803, 769)), ((769, 803), (803, 769)), ((97, 803, 769), (97, 769, 803)))
        for one, other in same:
            with self.subTest((one, other)):
                self.assertIs(equivalent(one, other), True)

    def test_not_equivalent(self):
        different = (((), (97,)), ((97,), (65,)), ((233,), (201,)), ((233,), (7865,)), ((101, 769), (769, 101)),
                     ((101, 769), (101, 769, 769)), ((769, 97, 803), (803, 97, 769)), ((223,), (115, 115)),
                     ((97, 769, 97), (97, 97, 769)))
        for one, other in different:
            with self.subTest((one, other)):
                self.assertIs(equivalent(one, other), False)

    def test_bad_texts(self):
        for value in NO_RAW_TEXTS:
            with self.subTest(value):
                self.assertRaises(BadText, equivalent, value, (97,))
                self.assertRaises(BadText, equivalent, (97,), value)
                self.assertRaises(BadText, equivalent, value, value)


class InterfaceTest(unittest.TestCase):
    def test_functions_are_defined_in_the_file(self):
        for name in ("points_of", "decompose", "compose", "equivalent"):
            self.assertEqual(getattr(letters, name).__module__, "stringheld.letters")

    def test_lists_are_not_modified(self):
        points, kinds = [97, 769, 803], ["wide", "marks"]
        self.assertRaises(BadText, decompose, points)
        self.assertRaises(BadText, compose, points)
        self.assertRaises(BadText, equivalent, points, points)
        self.assertRaises(BadKinds, points_of, kinds)
        self.assertEqual((points, kinds), ([97, 769, 803], ["wide", "marks"]))


if __name__ == "__main__":
    unittest.main()
