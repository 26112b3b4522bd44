"""Records, how they read, and how they are changed: points 10 to 12."""

import unittest

from formlens.book import Book
from formlens.errors import BadNumber, NoField, NoForm, NoRecord
from tests.samples import LARGE, NO_NAMES, NO_NUMBERS, TWELVE, Echo, Thorn, call_unharmed


def book_of(names, *grows):
    """A book with these forms and one record."""
    book = Book(names)
    for elder, step in grows:
        book.grow(elder, step)
    book.make()
    return book


def readings(book):
    """All that a book tells of its records."""
    return [[book.reading(record, form) for form in range(book.forms())] for record in range(book.records())]


CLOCK = [
    (0, ("part", "sec", "min", "sec", 60)),
    (1, ("part", "min", "hour", "min", 60)),
    (1, ("name", "note", "mark")),
    (2, ("add", "zone", 5)),
    (0, ("drop", "note")),
    (5, ("turn", "sec")),
]


class TestMake(unittest.TestCase):
    def test_records_are_numbered_as_they_are_made(self):
        book = Book(["a"])
        for record in range(50):
            self.assertEqual(book.records(), record)
            self.assertEqual(book.make(), record)
        self.assertEqual(book.records(), 50)
        self.assertEqual(book.forms(), 1)

    def test_form_0_has_0_for_each_name(self):
        for names in (["a"], ["b", "a"], TWELVE):
            book = book_of(names)
            self.assertEqual(book.reading(0, 0), {name: 0 for name in names})

    def test_adds_have_their_first(self):
        book = book_of(["a"], (0, ("add", "b", 7)), (1, ("add", "c", -LARGE)), (0, ("add", "b", 8)), (2, ("turn", "b")))
        self.assertEqual(book.reading(0, 1), {"a": 0, "b": 7})
        self.assertEqual(book.reading(0, 2), {"a": 0, "b": 7, "c": -LARGE})
        self.assertEqual(book.reading(0, 3), {"a": 0, "b": 8})
        self.assertEqual(book.reading(0, 4), {"a": 0, "b": -7, "c": -LARGE})

    def test_a_record_made_ahead_of_a_later_form(self):
        book = book_of(["a", "b"])
        book.change(0, 0, {"a": 150, "b": 3})
        self.assertEqual(book.grow(0, ("part", "a", "h", "l", 60)), 1)
        self.assertEqual(book.reading(0, 1), {"h": 2, "l": 30, "b": 3})
        self.assertEqual(book.grow(1, ("add", "c", 9)), 2)
        self.assertEqual(book.reading(0, 2), {"h": 2, "l": 30, "b": 3, "c": 9})
        self.assertEqual(book.change(0, 2, {"c": 1}), [2])
        self.assertEqual(book.make(), 1)
        self.assertEqual(book.reading(1, 2), {"h": 0, "l": 0, "b": 0, "c": 9})
        self.assertEqual(book.grow(2, ("add", "d", -1)), 3)
        self.assertEqual(book.reading(0, 3), {"h": 2, "l": 30, "b": 3, "c": 1, "d": -1})
        self.assertEqual(book.reading(1, 3), {"h": 0, "l": 0, "b": 0, "c": 9, "d": -1})


class TestReading(unittest.TestCase):
    def test_forth_of_the_reading_in_the_elder_form(self):
        book = book_of(["sec", "note"], *CLOCK)
        book.change(0, 0, {"sec": 7384, "note": 6})
        self.assertEqual(readings(book), [[
            {"sec": 7384, "note": 6},
            {"min": 123, "sec": 4, "note": 6},
            {"hour": 2, "min": 3, "sec": 4, "note": 6},
            {"min": 123, "sec": 4, "mark": 6},
            {"hour": 2, "min": 3, "sec": 4, "note": 6, "zone": 5},
            {"sec": 7384},
            {"sec": -7384},
        ]])

    def test_below_nought(self):
        book = book_of(["sec", "note"], *CLOCK)
        book.change(0, 0, {"sec": -1})
        self.assertEqual(book.reading(0, 2), {"hour": -1, "min": 59, "sec": 59, "note": 0})

    def test_each_step(self):
        book = book_of(
            ["a", "b"], (0, ("name", "a", "c")), (0, ("shift", "b", -4)), (0, ("turn", "a")), (0, ("join", "a", "b", "a", 60)),
        )
        book.change(0, 0, {"a": 2, "b": 130})
        self.assertEqual(readings(book), [[
            {"a": 2, "b": 130}, {"c": 2, "b": 130}, {"a": 2, "b": 126}, {"a": -2, "b": 130}, {"a": 250},
        ]])

    def test_readings_are_the_askers_own(self):
        book = book_of(["sec", "note"], *CLOCK)
        book.change(0, 2, {"hour": 1})
        before = readings(book)
        for form in range(book.forms()):
            book.reading(0, form).clear()
            book.reading(0, form).update({name: 99 for name in book.fields(form)})
        self.assertEqual(readings(book), before)

    def refuse(self, error, book, record, form):
        with self.assertRaises(error) as caught:
            book.reading(record, form)
        self.assertIs(type(caught.exception), error)

    def test_no_record_and_no_form(self):
        book = book_of(["sec", "note"], *CLOCK)
        book.make()
        for record in [2, 3, -1, -2, LARGE, -LARGE] + NO_NUMBERS:
            self.refuse(NoRecord, book, record, 0)
            self.refuse(NoRecord, book, record, 7)
            self.refuse(NoRecord, book, record, None)
        for form in [7, 8, -1, -7, LARGE, -LARGE] + NO_NUMBERS:
            self.refuse(NoForm, book, 1, form)

    def test_a_book_without_records(self):
        self.refuse(NoRecord, Book(["a"]), 0, 0)
        self.refuse(NoRecord, Book(["a"]), -1, 0)


class TestChange(unittest.TestCase):
    def test_what_is_kept_and_what_is_told(self):
        book = book_of(["sec", "note"], *CLOCK)
        self.assertEqual(call_unharmed(self, book.change, 0, 2, {"hour": 2, "sec": 4}), [0, 1, 2, 3, 4, 5, 6])
        self.assertEqual(book.reading(0, 0), {"sec": 7204, "note": 0})
        self.assertEqual(book.change(0, 3, {"mark": 8}), [0, 1, 2, 3, 4])
        self.assertEqual(book.reading(0, 0), {"sec": 7204, "note": 8})
        self.assertEqual(book.change(0, 4, {"zone": 6}), [4])
        self.assertEqual(book.reading(0, 4), {"hour": 2, "min": 0, "sec": 4, "note": 8, "zone": 6})
        self.assertEqual(book.change(0, 6, {"sec": 1}), [0, 1, 2, 3, 4, 5, 6])
        self.assertEqual(readings(book), [[
            {"sec": -1, "note": 8},
            {"min": -1, "sec": 59, "note": 8},
            {"hour": -1, "min": 59, "sec": 59, "note": 8},
            {"min": -1, "sec": 59, "mark": 8},
            {"hour": -1, "min": 59, "sec": 59, "note": 8, "zone": 6},
            {"sec": -1},
            {"sec": 1},
        ]])

    def test_some_of_the_names(self):
        book = book_of(["a", "b", "c"])
        self.assertEqual(book.change(0, 0, {"c": 1, "a": 2}), [0])
        self.assertEqual(book.reading(0, 0), {"a": 2, "b": 0, "c": 1})
        self.assertEqual(book.change(0, 0, {"b": -LARGE}), [0])
        self.assertEqual(book.reading(0, 0), {"a": 2, "b": -LARGE, "c": 1})

    def test_other_records_stay(self):
        book = book_of(["a"], (0, ("add", "b", 3)))
        book.make()
        self.assertEqual(book.change(1, 1, {"a": 1, "b": 2}), [0, 1])
        self.assertEqual(readings(book), [[{"a": 0}, {"a": 0, "b": 3}], [{"a": 1}, {"a": 1, "b": 2}]])

    def test_no_names_at_all_and_the_numbers_that_are_read(self):
        book = book_of(["sec", "note"], *CLOCK, (2, ("join", "sec", "min", "x", 7)), (7, ("shift", "x", 3)))
        book.change(0, 4, {"hour": -3, "min": 50, "sec": 51, "zone": 9, "note": 1})
        before = readings(book)
        for form in range(book.forms()):
            self.assertEqual(book.change(0, form, {}), [])
            self.assertEqual(readings(book), before)
            self.assertEqual(call_unharmed(self, book.change, 0, form, book.reading(0, form)), [])
            self.assertEqual(readings(book), before)

    def test_forms_that_do_not_know_what_was_changed_are_not_told(self):
        book = book_of(["a", "b"], (0, ("drop", "a")), (0, ("drop", "b")), (1, ("shift", "b", 2)), (2, ("turn", "a")))
        self.assertEqual(book.change(0, 3, {"b": 5}), [0, 1, 3])
        self.assertEqual(book.change(0, 4, {"a": 5}), [0, 2, 4])
        self.assertEqual(book.reading(0, 0), {"a": -5, "b": 3})
        self.assertEqual(book.change(0, 0, {"a": 1, "b": 3}), [0, 2, 4])

    def test_what_is_told_is_a_list_of_its_own(self):
        book = book_of(["a"], (0, ("turn", "a")))
        told = book.change(0, 1, {"a": 3})
        self.assertIs(type(told), list)
        told.clear()
        self.assertEqual(readings(book), [[{"a": -3}, {"a": 3}]])
        self.assertEqual(book.change(0, 1, {"a": 4}), [0, 1])

    def test_numbers_handed_in_are_not_kept(self):
        book = book_of(["a"], (0, ("add", "b", 3)))
        for form in (0, 1):
            numbers = {"a": form + 5}
            book.change(0, form, numbers)
            numbers["a"] = 99
            self.assertEqual(book.reading(0, form)["a"], form + 5)


class TestOwnNumbers(unittest.TestCase):
    def test_changed_in_its_form(self):
        book = book_of(["a"], (0, ("add", "b", 3)), (0, ("add", "b", 4)), (1, ("turn", "b")), (3, ("drop", "b")))
        self.assertEqual(book.change(0, 1, {"b": 8}), [1, 3])
        self.assertEqual(readings(book), [[{"a": 0}, {"a": 0, "b": 8}, {"a": 0, "b": 4}, {"a": 0, "b": -8}, {"a": 0}]])

    def test_changed_in_forms_made_of_that_one(self):
        book = book_of(["a"], (0, ("add", "b", 3)), (1, ("shift", "b", 10)), (2, ("join", "b", "a", "x", 5)), (2, ("drop", "b")))
        self.assertEqual(book.change(0, 2, {"b": 20}), [1, 2, 3])
        self.assertEqual(book.reading(0, 1), {"a": 0, "b": 10})
        self.assertEqual(book.change(0, 3, {"x": 63}), [0, 1, 2, 3, 4])
        self.assertEqual(book.reading(0, 1), {"a": 3, "b": 2})
        self.assertEqual(book.change(0, 4, {"a": 7}), [0, 1, 2, 3, 4])
        self.assertEqual(book.reading(0, 1), {"a": 7, "b": 2})
        self.assertEqual(book.reading(0, 3), {"x": 67})

    def test_an_add_of_an_add(self):
        book = book_of(["a"], (0, ("add", "b", 1)), (1, ("add", "c", 2)), (2, ("part", "b", "h", "l", 10)))
        self.assertEqual(book.change(0, 3, {"h": 4, "l": 5, "c": 6}), [1, 2, 3])
        self.assertEqual(book.reading(0, 1), {"a": 0, "b": 45})
        self.assertEqual(book.reading(0, 2), {"a": 0, "b": 45, "c": 6})
        self.assertEqual(book.change(0, 1, {"b": 9}), [1, 2, 3])
        self.assertEqual(book.reading(0, 3), {"a": 0, "h": 0, "l": 9, "c": 6})

    def test_own_to_the_record(self):
        book = book_of(["a"], (0, ("add", "b", 1)))
        book.make()
        book.change(0, 1, {"b": 5})
        self.assertEqual(book.reading(1, 1), {"a": 0, "b": 1})
        book.make()
        self.assertEqual(book.reading(2, 1), {"a": 0, "b": 1})


class TestRefusedChanges(unittest.TestCase):
    def setUp(self):
        self.book = book_of(["sec", "note"], *CLOCK)
        self.book.make()
        self.book.change(1, 4, {"hour": 3, "min": 2, "sec": 1, "note": -5, "zone": 4})

    def refuse(self, error, record, form, numbers):
        before = readings(self.book)
        with self.assertRaises(error) as caught:
            call_unharmed(self, self.book.change, record, form, numbers)
        self.assertIs(type(caught.exception), error)
        self.assertEqual(readings(self.book), before)

    def test_no_record(self):
        for record in [2, -1, -2, LARGE, -LARGE, None, True, False, "0", 0.0, [], (0,)]:
            self.refuse(NoRecord, record, 0, {"sec": 1})
        for record in (Echo(), Thorn()):
            with self.assertRaises(NoRecord):
                self.book.change(record, 0, {"sec": 1})

    def test_no_form(self):
        for form in [7, -1, -7, LARGE, -LARGE, None, True, False, "0", 0.0, [], (0,)]:
            self.refuse(NoForm, 1, form, {"sec": 1})
        for form in (Echo(), Thorn()):
            with self.assertRaises(NoForm):
                self.book.change(1, form, {"sec": 1})

    def test_no_field(self):
        self.refuse(NoField, 1, 0, {"hour": 1})
        self.refuse(NoField, 1, 0, {"sec": 1, "min": 1})
        self.refuse(NoField, 1, 5, {"note": 1})
        self.refuse(NoField, 1, 3, {"note": 1})
        self.refuse(NoField, 1, 2, {"zone": 4})

    def test_what_is_no_name(self):
        before = readings(self.book)
        for thing in NO_NAMES:
            if not isinstance(thing, (list, dict, set)):
                with self.assertRaises(NoField) as caught:
                    self.book.change(1, 4, {"hour": 5, thing: 1})
                self.assertIs(type(caught.exception), NoField)
                self.assertEqual(readings(self.book), before)

    def test_what_is_no_number(self):
        before = readings(self.book)
        for thing in NO_NUMBERS:
            for form, name in ((0, "sec"), (4, "zone"), (2, "sec")):
                with self.assertRaises(BadNumber) as caught:
                    self.book.change(1, form, {"note": 1, name: thing})
                self.assertIs(type(caught.exception), BadNumber)
                self.assertEqual(readings(self.book), before)

    def test_a_low_that_back_refuses(self):
        for low in (-1, 60, LARGE):
            self.refuse(BadNumber, 1, 1, {"sec": low})
            self.refuse(BadNumber, 1, 2, {"min": low, "note": 9})
            self.refuse(BadNumber, 1, 2, {"sec": low, "hour": 9})
            self.refuse(BadNumber, 1, 4, {"sec": low, "zone": 9, "note": 9})
        self.assertEqual(self.book.change(1, 4, {"sec": 59, "min": 59}), [0, 1, 2, 3, 4, 5, 6])

    def test_a_low_refused_several_steps_behind_form_0(self):
        book = self.book
        elder = 1
        for step in [("add", "x", 1), ("shift", "sec", 5), ("add", "y", 1), ("turn", "sec"), ("name", "sec", "s"), ("add", "z", 1)]:
            elder = book.grow(elder, step)
        self.assertEqual(book.reading(1, elder), {"min": 182, "s": -6, "note": -5, "x": 1, "y": 1, "z": 1})
        for number in (-4, -65, 0):
            self.refuse(BadNumber, 1, elder, {"s": number, "x": 8, "y": 8, "z": 8, "note": 8, "min": 8})
        book.change(1, elder, {"s": -64, "x": 8, "y": 8, "z": 8, "note": 8, "min": 8})
        self.assertEqual(book.reading(1, 0), {"sec": 539, "note": 8})
        book.change(1, elder, {"s": -5})
        self.assertEqual(book.reading(1, 0), {"sec": 480, "note": 8})

    def test_a_low_refused_behind_a_join(self):
        book = book_of(["a"], (0, ("part", "a", "h", "l", 60)), (1, ("join", "h", "l", "j", 7)))
        book.change(0, 0, {"a": 59})
        self.assertEqual(book.reading(0, 2), {"j": 59})
        before = readings(book)
        with self.assertRaises(BadNumber):
            book.change(0, 2, {"j": 60})
        self.assertEqual(readings(book), before)
        self.assertEqual(book.change(0, 2, {"j": 58}), [0, 1, 2])
        self.assertEqual(book.reading(0, 0), {"a": 58})
        self.assertEqual(book.change(0, 2, {"j": 63}), [0, 1, 2])
        self.assertEqual(book.reading(0, 1), {"h": 1, "l": 56})

    def test_order_of_the_refusals(self):
        self.refuse(NoRecord, 2, 7, {"x": None})
        self.refuse(NoRecord, None, None, {})
        self.refuse(NoForm, 1, 7, {"x": None})
        self.refuse(NoForm, 1, True, {})
        self.refuse(NoField, 1, 2, {"sec": None, "x": 1})
        self.refuse(NoField, 1, 2, {"sec": 60, "x": 1})
        self.refuse(NoField, 1, 2, {"x": None})
        self.refuse(BadNumber, 1, 2, {"hour": None, "sec": 60})
        self.refuse(NoField, 1, 2, {"hour": True, 1: True})
