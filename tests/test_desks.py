import itertools
import unittest

from samples import DESK, NO_LIBRARIES, OBJECTS, lib
from stringheld import desks
from stringheld.desks import Desk
from stringheld.errors import BadLibrary, InvalidText, NothingToUndo, NotNow, NotText
from stringheld.libraries import all_libraries, cut, join, length, lower, reverse, stored, upper
from stringheld.notes import read_text, write_text

COMPOSED = lib(store="composed")
DECOMPOSED = lib(store="decomposed")
NO_STRINGS = (None, True, False, 0, 1, -1, 97, 10 ** 30, (), ("show",), ("load", "97"), [], ["show"], {},
              {"show": "show"}) + OBJECTS
INVALID_LINES = (
    "", " ", "  ", "\n", "-", "97", "load", "load ", "load  97", "load 97 ", " load 97", "load\t97", "load\n97",
    "load 97\n", "load97", "load-", "load  -", "load - ", "load -.97", "load 097", "load +97", "load -97", "load 98",
    "load 97.", "load .97", "load 97..97", "load 97 97", "load 97, 97", "load ()", "load \uff19\uff17", "Load 97",
    "LOAD 97", "load 97" + ".97" * 20, "loads 97", "put 97", "set 97",
    "join", "join ", "join  97", "join 97 ", " join 97", "join\t97", "join 097", "join 98", "join 97.", "Join 97",
    "join 97 97", "join " + "97." * 20 + "97", "add 97", "join +97",
    "first", "first ", "first  1", "first 1 ", " first 1", "first\t1", "first 1\n", "first1", "first 01", "first 00",
    "first 0001", "first 00001", "first 10000", "first 99999", "first 00000", "first +1", "first -1", "first -0",
    "first +0", "first -", "first 1 1", "first 1.0", "first 1.", "first a", "first 1a", "first 0x1", "first 1_0",
    "first one", "first " + "1" * 5000, "first \uff11", "first \u0661", "first \u00b2", "first 1\u00a0", "First 1",
    "rest", "rest ", "rest  1", "rest 1 ", " rest 1", "rest 01", "rest 00", "rest 0000", "rest 10000", "rest +1",
    "rest -1", "rest -", "rest 1 1", "rest a", "rest \uff11", "Rest 1", "last 1",
    "upper ", " upper", "upper\n", "upper 1", "upper 97", "upper -", "Upper", "uppercase", "up",
    "lower ", " lower", "lower\n", "lower 1", "Lower", "reverse ", " reverse", "reverse 1", "Reverse", "reversed",
    "show ", " show", "show\n", "show 1", "show -", "Show", "length ", " length", "length 1", "Length", "len",
    "undo", "text", "show show", "upper lower", "upper\nlower",
)


def desk_with(library, *lines):
    desk = Desk(library)
    for line in lines:
        assert desk.run(line) is None
    return desk


def run_all(desk, lines):
    return [desk.run(line) for line in lines]


class Model:
    """What a desk does, told with the functions of the other files for short texts."""

    def __init__(self, library):
        self.library = library
        self.texts = [()]

    def run(self, line):
        word, told = (line.split(" ") + [""])[:2]
        text = self.texts[-1]
        if word in ("first", "rest") and int(told) > length(self.library, text):
            return "not now"
        if word == "show":
            return write_text(text)
        if word == "length":
            return str(length(self.library, text))
        if word == "load":
            text = stored(self.library, read_text(told))
        elif word == "join":
            text = join(self.library, text, stored(self.library, read_text(told)))
        elif word in ("first", "rest"):
            parts = cut(self.library, text, int(told))
            if parts == "refused":
                return "not now"
            text = parts[0] if word == "first" else parts[1]
        else:
            text = {"upper": upper, "lower": lower, "reverse": reverse}[word](self.library, text)
        self.texts.append(text)
        return None


class RunTest(unittest.TestCase):
    def changed(self, before, line, after, library=lib()):
        desk = desk_with(library, "load " + write_text(before))
        with self.subTest((library, before, line)):
            self.assertIsNone(desk.run(line))
            self.assertEqual(desk.text, after)
            self.assertIs(type(desk.text), tuple)

    def refused(self, error, before, line, library=lib()):
        desk = desk_with(library, "load " + write_text(before))
        kept = desk.text
        with self.subTest((library, before, line)):
            self.assertRaises(error, desk.run, line)
            self.assertEqual(desk.text, kept)
            self.assertEqual(desk.run("show"), write_text(kept))
            # A line that is refused is not there to be taken back.
            self.assertIsNone(desk.undo())
            self.assertEqual(desk.text, ())
            self.assertRaises(NothingToUndo, desk.undo)

    def test_the_text_is_at_first_empty(self):
        for library in all_libraries():
            desk = Desk(library)
            self.assertEqual((desk.text, desk.run("show"), desk.run("length")), ((), "-", "0"))

    def test_load(self):
        self.changed((83,), "load 97.223", (97, 223))
        self.changed((83,), "load -", ())
        self.changed((), "load 66600" + ".66600" * 19, (66600,) * 20)
        self.changed((83,), "load 101.769.803", (101, 769, 803))
        self.changed((83,), "load 101.769.803", (7865, 769), COMPOSED)
        self.changed((83,), "load 233.803", (101, 803, 769), DECOMPOSED)

    def test_join(self):
        self.changed((97,), "join 83.223", (97, 83, 223))
        self.changed((97,), "join -", (97,))
        self.changed((), "join 97", (97,))
        self.changed((101,), "join 769", (101, 769))
        self.changed((101,), "join 769", (233,), COMPOSED)
        self.changed((101, 769), "join 803", (101, 803, 769), DECOMPOSED)
        self.changed((97,), "join 233", (97, 101, 769), DECOMPOSED)
        self.changed((97,), "join 101.769", (97, 233), COMPOSED)

    def test_first_and_rest(self):
        text = (97, 233, 66600)
        cases = (
            # unit, cuts, place, first, rest
            ("points", "refuse", 0, (), text), ("points", "refuse", 2, (97, 233), (66600,)),
            ("points", "refuse", 3, text, ()), ("bytes", "refuse", 3, (97, 233), (66600,)),
            ("bytes", "back", 2, (97,), (233, 66600)), ("bytes", "back", 6, (97, 233), (66600,)),
            ("bytes", "refuse", 7, text, ()), ("units", "back", 3, (97, 233), (66600,)),
            ("units", "refuse", 4, text, ()),
        )
        for unit, cuts, place, first, rest in cases:
            self.changed(text, "first " + str(place), first, lib(unit, cuts))
            self.changed(text, "rest " + str(place), rest, lib(unit, cuts))
        self.changed((101, 769, 97), "first 1", (101, 769), lib("clusters"))
        self.changed((101, 769, 97), "rest 1", (97,), lib("clusters"))
        self.changed((66600,) * 20, "first 80", (66600,) * 20, lib("bytes"))
        self.changed((), "first 0", ())
        self.changed((), "rest 0", ())

    def test_upper_lower_and_reverse(self):
        self.changed((97, 223, 101), "upper", (65, 83, 83, 69))
        self.changed((97, 223, 101), "upper", (65, 223, 69), lib(case="simple"))
        self.changed((65, 7864, 66560), "lower", (97, 7865, 66600))
        self.changed((97, 101, 769), "reverse", (769, 101, 97))
        self.changed((97, 101, 769), "reverse", (101, 769, 97), lib("clusters"))
        self.changed((769, 101), "reverse", (233,), COMPOSED)
        for line in ("upper", "lower", "reverse"):
            self.changed((), line, ())

    def test_show_and_length(self):
        desk = desk_with(lib("bytes"), "load 97.233.66600")
        self.assertEqual(run_all(desk, ("show", "length", "show")), ["97.233.66600", "7", "97.233.66600"])
        self.assertEqual(desk.text, (97, 233, 66600))
        for unit, told in (("clusters", "2"), ("points", "3"), ("units", "4"), ("bytes", "7")):
            self.assertEqual(desk_with(lib(unit), "load 101.769.66600").run("length"), told)
        self.assertEqual(desk_with(lib("bytes"), "load 66600" + ".66600" * 19).run("length"), "80")

    def test_other_values_are_not_text(self):
        for line in NO_STRINGS:
            self.refused(NotText, (97,), line)

    def test_other_lines_are_invalid(self):
        for line in INVALID_LINES:
            self.refused(InvalidText, (97, 101), line)
            self.refused(InvalidText, (), line)

    def test_invalid_lines_at_a_text_that_allows_no_more(self):
        for line in INVALID_LINES:
            self.refused(InvalidText, (223,) * 20, line, lib("bytes"))

    def test_refused_cuts(self):
        cases = (("bytes", (233,), 1), ("bytes", (97, 66600), 4), ("units", (66600,), 1), ("bytes", (769, 803), 3))
        for unit, text, place in cases:
            self.refused(NotNow, text, "first " + str(place), lib(unit, "refuse"))
            self.refused(NotNow, text, "rest " + str(place), lib(unit, "refuse"))

    def test_places_greater_than_the_length(self):
        cases = ((lib(), (97,), 1), (lib(), (), 0), (lib("bytes", "back"), (233,), 2), (lib("clusters"), (101, 769), 1),
                 (lib("units", "back"), (66600,), 2))
        for library, text, many in cases:
            for place in (many + 1, many + 2, 10, 100, 1000, 9999):
                self.refused(NotNow, text, "first " + str(place), library)
                self.refused(NotNow, text, "rest " + str(place), library)

    def test_more_than_20_points_after_a_join(self):
        for store in ("composed", "decomposed", "kept"):
            library = lib(store=store)
            self.changed((97,) * 19, "join 83", (97,) * 19 + (83,), library)
            self.changed((97,) * 20, "join -", (97,) * 20, library)
            self.refused(NotNow, (97,) * 20, "join 83", library)
            self.refused(NotNow, (97,) * 19, "join 83.83", library)
            self.refused(NotNow, (97,), "join 97" + ".97" * 19, library)
        self.changed((97,) * 18, "join 233", (97,) * 18 + (101, 769), DECOMPOSED)
        self.refused(NotNow, (97,) * 19, "join 233", DECOMPOSED)
        self.refused(NotNow, (), "join 233" + ".97" * 19, DECOMPOSED)
        self.changed((97,) * 19, "join 101.769", (97,) * 19 + (233,), COMPOSED)
        self.changed((97,) * 19 + (101,), "join 769", (97,) * 19 + (233,), COMPOSED)
        self.refused(NotNow, (97,) * 19 + (101,), "join 769.769", COMPOSED)
        self.refused(NotNow, (97,) * 19 + (101,), "join 769")

    def test_more_than_20_points_after_upper(self):
        for store in ("composed", "decomposed", "kept"):
            library = lib(store=store)
            self.changed((223,) * 10, "upper", (83,) * 20, library)
            self.changed((97,) * 18 + (223,), "upper", (65,) * 18 + (83, 83), library)
            self.refused(NotNow, (97,) * 19 + (223,), "upper", library)
            self.refused(NotNow, (223,) * 20, "upper", library)
            self.changed((223,) * 20, "upper", (223,) * 20, lib(store=store, case="simple"))

    def test_more_than_20_points_after_load(self):
        self.changed((), "load 233" + ".233" * 9, (101, 769) * 10, DECOMPOSED)
        self.changed((), "load 233" + ".97" * 18, (101, 769) + (97,) * 18, DECOMPOSED)
        self.refused(NotNow, (97,), "load 233" + ".97" * 19, DECOMPOSED)
        self.refused(NotNow, (97,), "load 233" + ".233" * 19, DECOMPOSED)
        self.refused(NotNow, (97,), "load 233" + ".233" * 10, DECOMPOSED)
        self.changed((97,), "load 233" + ".233" * 19, (233,) * 20)
        self.changed((97,), "load 233" + ".233" * 19, (233,) * 20, COMPOSED)
        self.changed((97,), "load 101.769" + ".101.769" * 9, (233,) * 10, COMPOSED)

    def test_lines_after_a_refused_line(self):
        desk = desk_with(lib("bytes", "refuse"), "load 97.233")
        for line, error in (("first 2", NotNow), ("first 9", NotNow), ("first", InvalidText), (None, NotText)):
            self.assertRaises(error, desk.run, line)
            self.assertEqual(run_all(desk, ("show", "length")), ["97.233", "3"])
        self.assertIsNone(desk.run("first 1"))
        self.assertEqual(desk.text, (97,))

    def test_many_lines_against_the_other_functions(self):
        lines = ("load 101.223", "join 769", "join 803.97", "first 2", "rest 1", "upper", "reverse", "length", "show")
        for library in all_libraries()[::5] + (COMPOSED, DECOMPOSED, lib()):
            for chosen in itertools.product(lines, repeat=3):
                self.follow(library, ("load 233.66600",) + chosen)

    def follow(self, library, lines):
        desk, model = Desk(library), Model(library)
        for line in lines:
            told = model.run(line)
            if told == "not now":
                self.assertRaises(NotNow, desk.run, line)
            else:
                self.assertEqual(desk.run(line), told, (library, lines))
            self.assertEqual(desk.text, model.texts[-1], (library, lines))
        for text in model.texts[-2::-1]:
            self.assertIsNone(desk.undo())
            self.assertEqual(desk.text, text, (library, lines))
        self.assertRaises(NothingToUndo, desk.undo)


class UndoTest(unittest.TestCase):
    def test_nothing_to_undo_at_first(self):
        desk = Desk(lib())
        for _ in range(3):
            self.assertRaises(NothingToUndo, desk.undo)
            self.assertEqual(desk.text, ())
        self.assertIsNone(desk.run("load 97"))
        self.assertEqual(desk.text, (97,))

    def test_after_each_kind_of_line(self):
        for line in ("load 83", "join 83", "first 1", "rest 1", "upper", "lower", "reverse"):
            with self.subTest(line):
                desk = desk_with(lib(), "load 97.65.101", line)
                self.assertNotEqual(desk.text, (97, 65, 101))
                self.assertIsNone(desk.undo())
                self.assertEqual(desk.text, (97, 65, 101))
                self.assertIsNone(desk.undo())
                self.assertEqual(desk.text, ())
                self.assertRaises(NothingToUndo, desk.undo)

    def test_lines_that_leave_the_text_as_it_is_are_taken_back_too(self):
        desk = desk_with(lib(), "load -", "reverse", "load 83", "upper", "join -", "first 1", "rest 0", "load 83")
        for text in ((83,), (83,), (83,), (83,), (83,), (), (), ()):
            self.assertIsNone(desk.undo())
            self.assertEqual(desk.text, text)
        self.assertRaises(NothingToUndo, desk.undo)

    def test_lines_that_return_a_string_are_not_taken_back(self):
        desk = desk_with(lib(), "load 97", "upper")
        run_all(desk, ("show", "length", "show"))
        desk.undo()
        self.assertEqual(desk.text, (97,))
        run_all(desk, ("length", "show"))
        desk.undo()
        self.assertEqual(desk.text, ())
        run_all(desk, ("show", "length"))
        self.assertRaises(NothingToUndo, desk.undo)

    def test_lines_that_raised_are_not_taken_back(self):
        desk = desk_with(lib("bytes", "refuse"), "load 97", "join 233")
        for line in ("first 2", "rest 2", "first 4", "load", "join 98", 97, "upper ", "join 97" + ".97" * 18):
            self.assertRaises((NotNow, InvalidText, NotText), desk.run, line)
        desk.undo()
        self.assertEqual(desk.text, (97,))

    def test_undo_is_not_taken_back(self):
        desk = desk_with(lib(), "load 97", "join 101", "upper")
        desk.undo()
        desk.undo()
        self.assertEqual(desk.text, (97,))
        desk.run("reverse")
        desk.run("join 83")
        desk.undo()
        self.assertEqual(desk.text, (97,))
        desk.undo()
        self.assertEqual(desk.text, (97,))
        desk.undo()
        self.assertEqual(desk.text, ())
        self.assertRaises(NothingToUndo, desk.undo)

    def test_many_times(self):
        desk = Desk(lib())
        for _ in range(500):
            desk.run("load 97")
            desk.run("upper")
        for at in range(500):
            desk.undo()
            self.assertEqual(desk.text, (97,))
            desk.undo()
            self.assertEqual(desk.text, (65,) if at < 499 else ())
        self.assertRaises(NothingToUndo, desk.undo)


class DeskTest(unittest.TestCase):
    def test_bad_libraries(self):
        for library in NO_LIBRARIES:
            with self.subTest(library):
                self.assertRaises(BadLibrary, Desk, library)

    def test_desks_are_apart(self):
        one, other = Desk(lib()), Desk(lib())
        one.run("load 97")
        self.assertEqual((one.text, other.text), ((97,), ()))
        self.assertRaises(NothingToUndo, other.undo)
        self.assertEqual(one.text, (97,))

    def test_text_is_a_property_that_is_only_read(self):
        self.assertIs(type(vars(Desk)["text"]), property)
        desk = desk_with(lib(), "load 97")
        with self.assertRaises(AttributeError):
            desk.text = (83,)
        self.assertEqual(desk.text, (97,))

    def test_the_class_and_its_methods_are_defined_in_the_file(self):
        self.assertEqual(Desk.__module__, desks.__name__)
        for name in ("run", "undo", "text"):
            self.assertIn(name, vars(Desk))

    def test_arguments_are_not_modified(self):
        library, line = list(lib()), ["load", "97"]
        desk = Desk(lib())
        self.assertRaises(BadLibrary, Desk, library)
        self.assertRaises(NotText, desk.run, line)
        self.assertRaises(NotText, desk.run, DESK)
        self.assertEqual((library, line, DESK.text), (list(lib()), ["load", "97"], (101, 769)))


if __name__ == "__main__":
    unittest.main()
