import inspect
import unittest

from formlens import steps
from formlens.errors import BadForm, BadNumber, NoField, Taken
from formlens.steps import back, forth, is_name, is_number, is_step, names_behind
from tests.samples import LARGE, NO_NAMES, NO_NUMBERS, NO_STEPS, STEPS, TWELVE, call_unharmed


class TestInterface(unittest.TestCase):
    def test_functions_and_their_arguments(self):
        told = {
            "is_name": ["thing"], "is_number": ["thing"], "is_step": ["thing"],
            "names_behind": ["step", "names"],
            "forth": ["step", "reading", "own"], "back": ["step", "reading", "elder"],
        }
        for name, arguments in told.items():
            function = getattr(steps, name)
            self.assertEqual(function.__module__, "formlens.steps")
            self.assertEqual(list(inspect.signature(function).parameters), arguments)


class TestIsName(unittest.TestCase):
    def test_names(self):
        for name in ["a", "z", "m", "az", "za", "seconds", "abcdefgh", "zzzzzzzz", "aa", "name", "add"]:
            self.assertIs(is_name(name), True, name)

    def test_each_letter(self):
        for code in range(128):
            letter = chr(code)
            small = letter in "abcdefghijklmnopqrstuvwxyz"
            self.assertIs(is_name(letter), small, code)
            self.assertIs(is_name("a" + letter), small, code)
            self.assertIs(is_name(letter + "a"), small, code)

    def test_lengths(self):
        for many in range(20):
            self.assertIs(is_name("a" * many), 1 <= many <= 8, many)

    def test_no_names(self):
        for at, thing in enumerate(NO_NAMES):
            self.assertIs(is_name(thing), False, at)


class TestIsNumber(unittest.TestCase):
    def test_numbers(self):
        for number in [0, 1, -1, 7, LARGE, -LARGE, 10 ** 60 - 1, 1 - 10 ** 60, 10 ** 60, 10 ** 5000, -10 ** 5000]:
            self.assertIs(is_number(number), True)

    def test_no_numbers(self):
        for at, thing in enumerate(NO_NUMBERS):
            self.assertIs(is_number(thing), False, at)


class TestIsStep(unittest.TestCase):
    def test_steps(self):
        for step in STEPS:
            self.assertIs(is_step(step), True, step)

    def test_sizes(self):
        sizes = {1: False, 2: True, 3: True, 1000000: True, 1000001: False, 0: False, -2: False, LARGE: False}
        for size, told in sizes.items():
            self.assertIs(is_step(("part", "a", "h", "l", size)), told, size)
            self.assertIs(is_step(("join", "h", "l", "a", size)), told, size)

    def test_great_numbers(self):
        for number in (10 ** 60, -10 ** 60, 10 ** 5000):
            self.assertIs(is_step(("add", "a", number)), True)
            self.assertIs(is_step(("shift", "a", number)), True)

    def test_a_name_may_come_again(self):
        again = [
            ("name", "a", "a"), ("part", "a", "b", "a", 60), ("part", "a", "a", "b", 60),
            ("join", "a", "b", "a", 60), ("join", "a", "b", "b", 60),
        ]
        for step in again:
            self.assertIs(is_step(step), True, step)

    def test_no_steps(self):
        for at, thing in enumerate(NO_STEPS):
            self.assertIs(is_step(thing), False, at)

    def test_no_names_in_a_step(self):
        for at, thing in enumerate(NO_NAMES):
            wrong = [
                ("add", thing, 1), ("drop", thing), ("name", thing, "b"), ("name", "b", thing),
                ("shift", thing, 1), ("turn", thing),
                ("part", thing, "h", "l", 60), ("part", "b", thing, "l", 60), ("part", "b", "h", thing, 60),
                ("join", thing, "l", "b", 60), ("join", "h", thing, "b", 60), ("join", "h", "l", thing, 60),
            ]
            for kind, step in enumerate(wrong):
                self.assertIs(is_step(step), False, (at, kind))

    def test_no_numbers_in_a_step(self):
        for at, thing in enumerate(NO_NUMBERS):
            wrong = [("add", "a", thing), ("shift", "a", thing), ("part", "a", "h", "l", thing), ("join", "h", "l", "a", thing)]
            for kind, step in enumerate(wrong):
                self.assertIs(is_step(step), False, (at, kind))


class TestNamesBehind(unittest.TestCase):
    def check(self, step, names, newer):
        self.assertEqual(call_unharmed(self, names_behind, step, names), newer, step)

    def refuse(self, error, step, names):
        with self.assertRaises(error) as caught:
            call_unharmed(self, names_behind, step, names)
        self.assertIs(type(caught.exception), error, step)

    def test_places(self):
        self.check(("add", "d", 5), ["c", "a", "b"], ["c", "a", "b", "d"])
        self.check(("add", "a", 5), ["c", "b"], ["c", "b", "a"])
        self.check(("drop", "c"), ["c", "a", "b"], ["a", "b"])
        self.check(("drop", "a"), ["c", "a", "b"], ["c", "b"])
        self.check(("drop", "b"), ["c", "a", "b"], ["c", "a"])
        self.check(("name", "a", "d"), ["c", "a", "b"], ["c", "d", "b"])
        self.check(("name", "c", "z"), ["c", "a", "b"], ["z", "a", "b"])
        self.check(("shift", "a", 5), ["c", "a", "b"], ["c", "a", "b"])
        self.check(("turn", "c"), ["c", "a", "b"], ["c", "a", "b"])
        self.check(("part", "a", "z", "d", 60), ["c", "a", "b"], ["c", "z", "d", "b"])
        self.check(("part", "b", "h", "l", 60), ["c", "a", "b"], ["c", "a", "h", "l"])
        self.check(("part", "c", "h", "l", 60), ["c", "a", "b"], ["h", "l", "a", "b"])
        self.check(("join", "c", "b", "d", 60), ["c", "a", "b"], ["d", "a"])
        self.check(("join", "b", "c", "d", 60), ["c", "a", "b"], ["a", "d"])
        self.check(("join", "a", "b", "d", 60), ["c", "a", "b"], ["c", "d"])
        self.check(("join", "a", "c", "d", 60), ["c", "a", "b"], ["d", "b"])

    def test_a_name_that_goes_and_comes_again(self):
        self.check(("name", "a", "a"), ["c", "a", "b"], ["c", "a", "b"])
        self.check(("part", "a", "d", "a", 60), ["c", "a", "b"], ["c", "d", "a", "b"])
        self.check(("part", "a", "a", "d", 60), ["c", "a", "b"], ["c", "a", "d", "b"])
        self.check(("part", "a", "b", "a", 60), ["a"], ["b", "a"])
        self.check(("join", "a", "b", "a", 60), ["c", "a", "b"], ["c", "a"])
        self.check(("join", "b", "a", "a", 60), ["c", "a", "b"], ["c", "a"])
        self.check(("join", "c", "b", "b", 60), ["c", "a", "b"], ["b", "a"])
        self.check(("join", "a", "b", "a", 60), ["b", "a"], ["a"])

    def test_what_is_given_back_is_a_list_of_its_own(self):
        for step in STEPS:
            names = ["a", "b", "c"] if step[0:3] != ("part", "a", "b") else ["a", "c"]
            newer = names_behind(step, names)
            self.assertIs(type(newer), list)
            kept = list(names)
            newer.clear()
            self.assertEqual(names, kept, step)

    def test_no_field(self):
        for step in [
            ("drop", "z"), ("name", "z", "d"), ("name", "z", "z"), ("shift", "z", 1), ("turn", "z"),
            ("part", "z", "h", "l", 60), ("join", "a", "z", "d", 60), ("join", "z", "a", "d", 60), ("join", "y", "z", "d", 60),
        ]:
            self.refuse(NoField, step, ["c", "a", "b"])

    def test_taken(self):
        for step in [
            ("add", "a", 1), ("add", "b", 1), ("name", "a", "b"), ("part", "a", "b", "l", 60), ("part", "a", "h", "b", 60),
            ("part", "a", "b", "a", 60), ("part", "a", "a", "b", 60), ("part", "a", "b", "c", 60), ("join", "a", "b", "c", 60),
        ]:
            self.refuse(Taken, step, ["c", "a", "b"])

    def test_a_form_of_one_name(self):
        self.refuse(BadForm, ("drop", "a"), ["a"])
        self.check(("name", "a", "b"), ["a"], ["b"])
        self.check(("join", "a", "b", "c", 60), ["a", "b"], ["c"])
        self.check(("drop", "a"), ["a", "b"], ["b"])

    def test_a_form_of_twelve_names(self):
        self.refuse(BadForm, ("add", "z", 1), TWELVE)
        self.refuse(BadForm, ("part", "a", "y", "z", 60), TWELVE)
        self.refuse(BadForm, ("part", "a", "a", "z", 60), TWELVE)
        self.check(("add", "z", 1), TWELVE[1:], TWELVE[1:] + ["z"])
        self.check(("part", "b", "b", "z", 60), TWELVE[1:], ["b", "z"] + TWELVE[2:])
        self.check(("name", "a", "z"), TWELVE, ["z"] + TWELVE[1:])
        self.check(("shift", "l", 1), TWELVE, TWELVE)
        self.check(("join", "a", "l", "z", 60), TWELVE, ["z"] + TWELVE[1:-1])
        self.check(("drop", "l"), TWELVE, TWELVE[:-1])

    def test_order_of_the_refusals(self):
        self.refuse(NoField, ("name", "z", "a"), ["a", "b"])
        self.refuse(NoField, ("part", "z", "a", "b", 60), TWELVE)
        self.refuse(NoField, ("part", "z", "x", "y", 60), TWELVE)
        self.refuse(NoField, ("join", "a", "z", "b", 60), ["a", "b"])
        self.refuse(NoField, ("join", "z", "y", "a", 60), ["a", "b"])
        self.refuse(NoField, ("drop", "z"), ["a"])
        self.refuse(Taken, ("add", "a", 1), TWELVE)
        self.refuse(Taken, ("part", "a", "b", "z", 60), TWELVE)
        self.refuse(Taken, ("part", "a", "z", "b", 60), TWELVE)


class TestForth(unittest.TestCase):
    def check(self, step, reading, newer, own=None):
        self.assertEqual(call_unharmed(self, forth, step, reading, own), newer, step)

    def test_each_step(self):
        self.check(("add", "d", 5), {"a": 1, "b": 2}, {"a": 1, "b": 2, "d": 9}, 9)
        self.check(("add", "d", 5), {"a": 1}, {"a": 1, "d": -LARGE}, -LARGE)
        self.check(("drop", "a"), {"a": 1, "b": 2}, {"b": 2})
        self.check(("name", "a", "d"), {"a": 1, "b": 2}, {"d": 1, "b": 2})
        self.check(("shift", "a", 7), {"a": 1, "b": 2}, {"a": 8, "b": 2})
        self.check(("shift", "a", -7), {"a": 1, "b": 2}, {"a": -6, "b": 2})
        self.check(("turn", "a"), {"a": 1, "b": 2}, {"a": -1, "b": 2})
        self.check(("turn", "a"), {"a": -1, "b": 2}, {"a": 1, "b": 2})
        self.check(("turn", "a"), {"a": 0}, {"a": 0})
        self.check(("part", "a", "h", "l", 60), {"a": 150, "b": 2}, {"h": 2, "l": 30, "b": 2})
        self.check(("join", "h", "l", "a", 60), {"h": 2, "l": 30, "b": 2}, {"a": 150, "b": 2})

    def test_part_is_rounded_down_below_nought_too(self):
        for number, high, low in [
            (0, 0, 0), (59, 0, 59), (60, 1, 0), (61, 1, 1), (-1, -1, 59), (-59, -1, 1), (-60, -1, 0), (-61, -2, 59),
        ]:
            self.check(("part", "a", "h", "l", 60), {"a": number}, {"h": high, "l": low})

    def test_join_of_lows_beyond_the_size(self):
        self.check(("join", "h", "l", "a", 60), {"h": 2, "l": 90}, {"a": 210})
        self.check(("join", "h", "l", "a", 60), {"h": 2, "l": -1}, {"a": 119})
        self.check(("join", "h", "l", "a", 60), {"h": -2, "l": 1}, {"a": -119})

    def test_a_name_that_comes_again(self):
        self.check(("name", "a", "a"), {"a": 4, "b": 2}, {"a": 4, "b": 2})
        self.check(("part", "a", "b", "a", 60), {"a": 150}, {"b": 2, "a": 30})
        self.check(("part", "a", "a", "b", 60), {"a": 150}, {"a": 2, "b": 30})
        self.check(("join", "a", "b", "a", 60), {"a": 2, "b": 30}, {"a": 150})
        self.check(("join", "b", "a", "a", 60), {"a": 2, "b": 30}, {"a": 1802})

    def test_great_numbers(self):
        self.check(("shift", "a", LARGE), {"a": LARGE}, {"a": 2 * LARGE})
        self.check(("turn", "a"), {"a": -LARGE}, {"a": LARGE})
        self.check(("join", "h", "l", "a", 1000000), {"h": LARGE, "l": -3}, {"a": LARGE * 1000000 - 3})
        self.check(("part", "a", "h", "l", 1000000), {"a": -LARGE}, {"h": -10 ** 53 - 1, "l": 999993})
        self.check(("part", "a", "h", "l", 2), {"a": LARGE}, {"h": 5 * 10 ** 58 + 3, "l": 1})

    def test_own_is_not_looked_at_of_other_steps(self):
        for step in STEPS:
            if step[0] != "add":
                reading = {"a": 1, "b": 2, "c": 3}
                self.assertEqual(forth(step, reading, None), forth(step, reading, "own"), step)


class TestBack(unittest.TestCase):
    def check(self, step, reading, so_far, older):
        self.assertEqual(call_unharmed(self, back, step, reading, so_far), older, step)

    def refuse(self, step, reading, so_far):
        with self.assertRaises(BadNumber) as caught:
            call_unharmed(self, back, step, reading, so_far)
        self.assertIs(type(caught.exception), BadNumber)

    def test_each_step(self):
        self.check(("add", "d", 5), {"a": 1, "d": 9}, {"a": 0}, {"a": 1})
        self.check(("drop", "a"), {"b": 5}, {"a": 1, "b": 2}, {"a": 1, "b": 5})
        self.check(("name", "a", "d"), {"d": 8, "b": 5}, {"a": 1, "b": 2}, {"a": 8, "b": 5})
        self.check(("shift", "a", 7), {"a": 8, "b": 5}, {"a": 0, "b": 2}, {"a": 1, "b": 5})
        self.check(("turn", "a"), {"a": 8, "b": 5}, {"a": 0, "b": 2}, {"a": -8, "b": 5})
        self.check(("part", "a", "h", "l", 60), {"h": 2, "l": 30, "b": 5}, {"a": 0, "b": 2}, {"a": 150, "b": 5})
        self.check(("join", "h", "l", "a", 60), {"a": 150, "b": 5}, {"h": 0, "l": 0, "b": 2}, {"h": 2, "l": 30, "b": 5})

    def test_drop_has_the_number_so_far(self):
        for number in (0, -3, LARGE):
            self.check(("drop", "a"), {"b": 5, "c": 6}, {"a": number, "b": 1, "c": 2}, {"a": number, "b": 5, "c": 6})

    def test_lows_of_a_part(self):
        step = ("part", "a", "h", "l", 60)
        self.check(step, {"h": 0, "l": 0}, {"a": 5}, {"a": 0})
        self.check(step, {"h": 1, "l": 59}, {"a": 5}, {"a": 119})
        self.check(step, {"h": -1, "l": 59}, {"a": 5}, {"a": -1})
        self.check(step, {"h": -2, "l": 0}, {"a": 5}, {"a": -120})
        for low in (-1, 60, 61, -60, LARGE, -LARGE):
            self.refuse(step, {"h": 1, "l": low}, {"a": 5})
        self.refuse(("part", "a", "h", "l", 2), {"h": 1, "l": 2}, {"a": 5})
        self.refuse(("part", "a", "b", "a", 60), {"b": 1, "a": 60}, {"a": 5})
        self.refuse(("part", "a", "a", "b", 60), {"b": 60, "a": 1}, {"a": 5})
        self.check(("part", "a", "h", "l", 1000000), {"h": LARGE, "l": 999999}, {"a": 5}, {"a": LARGE * 1000000 + 999999})

    def test_join_with_a_low_so_far_beyond_the_size(self):
        step = ("join", "h", "l", "a", 60)
        for joined, low_so_far, high, low in [
            (150, 0, 2, 30), (150, 59, 2, 30), (150, 60, 1, 90), (150, 119, 1, 90), (150, 125, 0, 150), (150, 600, -8, 630),
            (150, -1, 3, -30), (150, -60, 3, -30), (150, -61, 4, -90),
            (0, 0, 0, 0), (59, 0, 0, 59), (60, 0, 1, 0), (-1, 0, -1, 59), (-60, 0, -1, 0), (-61, 0, -2, 59),
            (-1, 60, -2, 119), (-1, -1, 0, -1), (-61, -61, 0, -61),
        ]:
            self.check(step, {"a": joined}, {"h": 77, "l": low_so_far}, {"h": high, "l": low})

    def test_a_name_that_comes_again(self):
        self.check(("name", "a", "a"), {"a": 4, "b": 2}, {"a": 0, "b": 0}, {"a": 4, "b": 2})
        self.check(("part", "a", "b", "a", 60), {"b": 2, "a": 30}, {"a": 0}, {"a": 150})
        self.check(("part", "a", "a", "b", 60), {"a": 2, "b": 30}, {"a": 0}, {"a": 150})
        self.check(("join", "a", "b", "a", 60), {"a": 150}, {"a": 0, "b": 61}, {"a": 1, "b": 90})
        self.check(("join", "b", "a", "a", 60), {"a": 150}, {"a": 61, "b": 0}, {"a": 90, "b": 1})


class TestForthAndBack(unittest.TestCase):
    """What point 8 says of the two together."""

    numbers = (0, 1, -1, 2, 59, -60, 61, 2000001, -2000001, LARGE, -LARGE)

    def readings(self, names):
        many = len(self.numbers)
        return [
            {name: self.numbers[(first + at * stride) % many] for at, name in enumerate(names)}
            for first in range(many) for stride in range(many)
        ]

    def each_step(self):
        for step in STEPS:
            names = ["a", "c"] if step == ("part", "a", "b", "a", 2) else ["a", "b", "c"]
            yield step, self.readings(names), self.readings(names_behind(step, names))

    def fitting(self, step, newer):
        """The newer readings that back takes."""
        if step[0] != "part":
            return newer
        return [{**reading, step[3]: reading[step[3]] % step[4]} for reading in newer]

    def own(self, step, newer):
        return newer[step[1]] if step[0] == "add" else None

    def test_forth_of_what_back_gives(self):
        for step, elder, newer in self.each_step():
            for so_far, reading in zip(elder, self.fitting(step, newer)):
                older = back(step, reading, so_far)
                self.assertEqual(forth(step, older, self.own(step, reading)), reading, step)

    def test_back_of_what_forth_gives(self):
        for step, elder, _ in self.each_step():
            for so_far in elder:
                self.assertEqual(back(step, forth(step, so_far, 3), so_far), so_far, step)

    def test_back_of_one_and_then_of_another(self):
        for step, elder, newer in self.each_step():
            taken = self.fitting(step, newer)
            for so_far, one, other in zip(elder, taken, reversed(taken)):
                between = back(step, one, so_far)
                self.assertEqual(back(step, other, between), back(step, other, so_far), step)

    def test_what_is_given_back_is_the_askers_own(self):
        for step, elder, newer in self.each_step():
            so_far, reading = elder[0], self.fitting(step, newer)[0]
            kept = dict(so_far), dict(reading)
            forth(step, so_far, 3).clear()
            back(step, reading, so_far).clear()
            self.assertEqual((so_far, reading), kept, step)
