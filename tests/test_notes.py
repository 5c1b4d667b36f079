import itertools
import unittest

from samples import DESK, NO_RAW_TEXTS, OBJECTS
from stringheld import notes
from stringheld.errors import BadText, InvalidText, NotText
from stringheld.notes import read_text, write_text

POINTS = (65, 69, 83, 97, 101, 115, 201, 223, 233, 769, 803, 7864, 7865, 66560, 66600)
NO_STRINGS = (None, True, False, 0, 1, -1, 97, 10 ** 30, (), (97,), ("97",), [], ["97"], {}, {"97": 97}) + OBJECTS
NO_NOTES = (
    "", ".", "..", "--", "-.", ".-", "-.65", "65.-", "65.-.65", "-65", "+65", "65.-65", "65.+65", "- ", " -", "-\n",
    "065", "0065", "65.065", "00769", "65.0769", "0", "00", "65.0", " 65", "65 ", "65. 69", "65 .69", "65 69", "65\n",
    "\n65", "65\t", "65.69\n", ".65", "65.", "65..69", ".65.", "65.69.", "65,69", "65-69", "98", "1", "10", "64", "66",
    "770", "7866", "66561", "65.98", "98.65", "6", "6569", "65.6", "999999", "65." + "9" * 5000, "9" * 5000, "a", "A",
    "é", "97a", "0x41", "6_5", "65.0", "65.0.", "6.5", "65e0", "1e2", "True", "None", "()", "(65,)", "65.None",
    # Digits other than 0 to 9, which Python's own int reads as 65.
    "\u0666\u0665", "\uff16\uff15", "65.\u0666\u0665", "6\uff15", "\u06f6\u06f5", "6\u2085", "\u00b2",
    # Signs that look like the dot or the dash.
    "65\u00b769", "65\uff0e69", "\u2212", "\u2013", "\u00ad", "65\u00a0", "65\x00",
)


class WriteTextTest(unittest.TestCase):
    def test_write_text(self):
        cases = (
            ((), "-"), ((97,), "97"), ((65, 69), "65.69"), ((101, 769, 66600), "101.769.66600"),
            ((233, 803), "233.803"), ((769,), "769"), ((97,) * 20, "97" + ".97" * 19),
            ((66600,) * 20, "66600" + ".66600" * 19),
        )
        for text, note in cases:
            with self.subTest(text):
                self.assertEqual(write_text(text), note)
                self.assertIs(type(write_text(text)), str)

    def test_each_point(self):
        for point in POINTS:
            self.assertEqual(write_text((point,)), str(point))

    def test_bad_texts(self):
        for value in NO_RAW_TEXTS:
            with self.subTest(value):
                self.assertRaises(BadText, write_text, value)

    def test_texts_of_21_points(self):
        for value in ((97,) * 21, (233,) * 21, (101, 769) * 10 + (97,)):
            self.assertRaises(BadText, write_text, value)


class ReadTextTest(unittest.TestCase):
    def test_read_text(self):
        cases = (
            ("-", ()), ("97", (97,)), ("65.69", (65, 69)), ("223.97", (223, 97)), ("233.803", (233, 803)),
            ("769.803", (769, 803)), ("97" + ".97" * 19, (97,) * 20), ("66600" + ".66600" * 19, (66600,) * 20),
        )
        for note, text in cases:
            with self.subTest(note):
                self.assertEqual(read_text(note), text)
                self.assertIs(type(read_text(note)), tuple)

    def test_there_and_back(self):
        for many in range(4):
            for text in itertools.product(POINTS, repeat=many):
                self.assertEqual(read_text(write_text(text)), text)
        for many in range(21):
            text = (POINTS + POINTS)[:many]
            self.assertEqual(read_text(write_text(text)), text)

    def test_points_are_integers(self):
        self.assertEqual([type(point) for point in read_text("65.66600")], [int, int])

    def test_other_values_are_not_text(self):
        for value in NO_STRINGS:
            with self.subTest(value):
                self.assertRaises(NotText, read_text, value)

    def test_other_strings_are_invalid(self):
        for note in NO_NOTES:
            with self.subTest(note):
                self.assertRaises(InvalidText, read_text, note)

    def test_notes_of_21_points(self):
        for note in ("97" + ".97" * 20, "66600" + ".66600" * 20, "97" + ".97" * 1000):
            self.assertRaises(InvalidText, read_text, note)

    def test_only_what_is_written_is_read(self):
        for signs in range(6):
            for note in map("".join, itertools.product("-.056", repeat=signs)):
                try:
                    text = read_text(note)
                except InvalidText:
                    continue
                self.assertEqual(write_text(text), note)


class InterfaceTest(unittest.TestCase):
    def test_functions_are_defined_in_the_file(self):
        for name in ("write_text", "read_text"):
            self.assertEqual(getattr(notes, name).__module__, "stringheld.notes")

    def test_arguments_are_not_modified(self):
        points, words = [97, 769], {"97": [97]}
        self.assertRaises(BadText, write_text, points)
        self.assertRaises(BadText, write_text, (points,))
        self.assertRaises(NotText, read_text, points)
        self.assertRaises(NotText, read_text, words)
        self.assertRaises(NotText, read_text, DESK)
        self.assertEqual((points, words, DESK.text), ([97, 769], {"97": [97]}, (101, 769)))


if __name__ == "__main__":
    unittest.main()
