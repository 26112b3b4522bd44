"""Books and their forms: point 9."""

import inspect
import unittest

from formlens import book as book_file
from formlens.book import Book
from formlens.errors import BadForm, BadName, BadStep, NoField, NoForm, Taken, TooMany
from tests.samples import LARGE, NO_NAMES, NO_NUMBERS, NO_STEPS, TWELVE, Echo, Thorn, call_unharmed


def grown(many):
    """A book of so many forms, each made of the one ahead of it."""
    book = Book(["a", "b"])
    for form in range(many - 1):
        book.grow(form, ("shift", "a", form))
    return book


def shape(book):
    """All that a book tells of its forms."""
    return [(book.fields(form), book.elder(form), book.step(form)) for form in range(book.forms())]


class TestInterface(unittest.TestCase):
    def test_class_and_its_methods(self):
        told = {
            "__init__": ["self", "names"],
            "grow": ["self", "form", "step"], "forms": ["self"],
            "fields": ["self", "form"], "elder": ["self", "form"], "step": ["self", "form"],
            "make": ["self"], "records": ["self"],
            "reading": ["self", "record", "form"], "change": ["self", "record", "form", "numbers"],
        }
        self.assertEqual(book_file.Book.__module__, "formlens.book")
        for name, arguments in told.items():
            self.assertIn(name, vars(Book))
            self.assertEqual(list(inspect.signature(vars(Book)[name]).parameters), arguments)


class TestFirstForm(unittest.TestCase):
    def refuse(self, error, names):
        with self.assertRaises(error) as caught:
            call_unharmed(self, Book, names)
        self.assertIs(type(caught.exception), error)

    def test_form_0(self):
        for names in (["a"], ["b", "a"], TWELVE, ["abcdefgh", "a"]):
            book = call_unharmed(self, Book, names)
            self.assertEqual(book.forms(), 1)
            self.assertEqual(book.fields(0), names)
            self.assertIsNone(book.elder(0))
            self.assertIsNone(book.step(0))
            self.assertEqual(book.records(), 0)

    def test_too_few_and_too_many_names(self):
        self.refuse(BadForm, [])
        self.refuse(BadForm, TWELVE + ["m"])
        self.refuse(BadForm, TWELVE + TWELVE)

    def test_no_names(self):
        for at, thing in enumerate(NO_NAMES):
            for names in ([thing], ["a", thing], [thing, "b"]):
                with self.assertRaises(BadName, msg=at) as caught:
                    Book(names)
                self.assertIs(type(caught.exception), BadName)

    def test_a_name_twice(self):
        self.refuse(Taken, ["a", "a"])
        self.refuse(Taken, ["a", "b", "c", "a"])
        self.refuse(Taken, TWELVE[:11] + ["k"])

    def test_order_of_the_refusals(self):
        self.refuse(BadForm, TWELVE + ["A"])
        self.refuse(BadForm, TWELVE + ["a"])
        self.refuse(BadForm, [""] * 13)
        self.refuse(BadName, ["a", "a", "A"])
        self.refuse(BadName, ["A", "A"])
        self.refuse(BadName, [1, 1])
        self.refuse(BadName, [[], []])

    def test_the_book_keeps_names_of_its_own(self):
        names = ["a", "b"]
        book = Book(names)
        names.clear()
        self.assertEqual(book.fields(0), ["a", "b"])
        book.make()
        self.assertEqual(book.reading(0, 0), {"a": 0, "b": 0})


class TestGrow(unittest.TestCase):
    def refuse(self, error, book, form, step):
        before = shape(book)
        with self.assertRaises(error) as caught:
            book.grow(form, step)
        self.assertIs(type(caught.exception), error)
        self.assertEqual(shape(book), before)

    def test_forms_are_numbered_as_they_are_made(self):
        book = Book(["a", "b"])
        told = [
            (0, ("name", "a", "c"), ["c", "b"]),
            (0, ("part", "b", "h", "l", 60), ["a", "h", "l"]),
            (1, ("add", "a", 4), ["c", "b", "a"]),
            (3, ("join", "a", "c", "x", 7), ["b", "x"]),
            (4, ("drop", "x"), ["b"]),
            (0, ("name", "a", "c"), ["c", "b"]),
        ]
        for at, (elder, step, names) in enumerate(told, start=1):
            self.assertEqual(call_unharmed(self, book.grow, elder, step), at)
            self.assertEqual(book.forms(), at + 1)
            self.assertEqual(book.fields(at), names)
            self.assertEqual(book.elder(at), elder)
            self.assertEqual(book.step(at), step)
            self.assertIs(type(book.step(at)), tuple)
        self.assertEqual(book.fields(0), ["a", "b"])
        self.assertIsNone(book.elder(0))
        self.assertIsNone(book.step(0))

    def test_a_name_that_goes_and_comes_again(self):
        book = Book(["a"])
        self.assertEqual(book.fields(book.grow(0, ("name", "a", "a"))), ["a"])
        self.assertEqual(book.fields(book.grow(1, ("part", "a", "b", "a", 60))), ["b", "a"])
        self.assertEqual(book.fields(book.grow(2, ("join", "a", "b", "a", 60))), ["a"])

    def test_no_form(self):
        book = grown(3)
        for form in [3, 4, -1, -3, LARGE, -LARGE] + NO_NUMBERS:
            self.refuse(NoForm, book, form, ("turn", "a"))

    def test_no_step(self):
        book = grown(3)
        for step in NO_STEPS:
            self.refuse(BadStep, book, 0, step)
        for thing in NO_NAMES:
            self.refuse(BadStep, book, 0, ("name", "a", thing))
            self.refuse(BadStep, book, 0, ("drop", thing))
        for thing in NO_NUMBERS:
            self.refuse(BadStep, book, 0, ("shift", "a", thing))

    def test_what_does_not_fit(self):
        book = Book(["a", "b"])
        book.grow(0, ("name", "a", "c"))
        self.refuse(NoField, book, 1, ("drop", "a"))
        self.refuse(NoField, book, 0, ("name", "z", "a"))
        self.refuse(Taken, book, 0, ("add", "b", 1))
        self.refuse(Taken, book, 1, ("name", "b", "c"))
        book.grow(0, ("drop", "a"))
        self.refuse(BadForm, book, 2, ("drop", "b"))
        twelve = Book(TWELVE)
        self.refuse(BadForm, twelve, 0, ("add", "z", 1))
        self.refuse(BadForm, twelve, 0, ("part", "a", "y", "z", 60))
        self.refuse(Taken, twelve, 0, ("add", "a", 1))
        self.refuse(NoField, twelve, 0, ("part", "z", "a", "b", 60))

    def test_thirty_forms_and_one_more(self):
        book = grown(29)
        self.assertEqual(book.grow(28, ("turn", "a")), 29)
        self.assertEqual(book.forms(), 30)
        self.refuse(TooMany, book, 29, ("turn", "a"))
        self.refuse(TooMany, book, 0, ("add", "c", 1))
        book.make()
        self.assertEqual(book.reading(0, 29), {"a": -sum(range(28)), "b": 0})

    def test_order_of_the_refusals(self):
        book = grown(30)
        self.refuse(NoForm, book, 30, "no step")
        self.refuse(NoForm, book, True, ("turn", "z"))
        self.refuse(NoForm, book, None, ("turn", "a"))
        self.refuse(BadStep, book, 0, ("turn", "a", "z"))
        self.refuse(BadStep, book, 0, ("name", "z", "A"))
        self.refuse(BadStep, book, 0, ("part", "z", "a", "a", 1))
        self.refuse(NoField, book, 0, ("turn", "z"))
        self.refuse(Taken, book, 0, ("add", "a", 1))
        single = Book(["a"])
        for form in range(29):
            single.grow(form, ("turn", "a"))
        self.refuse(BadForm, single, 0, ("drop", "a"))
        self.refuse(TooMany, single, 0, ("turn", "a"))


class TestForms(unittest.TestCase):
    def test_no_form(self):
        book = grown(3)
        for form in [3, 4, -1, -3, LARGE, -LARGE] + NO_NUMBERS:
            for ask in (book.fields, book.elder, book.step):
                with self.assertRaises(NoForm) as caught:
                    ask(form)
                self.assertIs(type(caught.exception), NoForm)

    def test_fields_are_the_askers_own(self):
        book = grown(3)
        book.make()
        for form in range(3):
            book.fields(form).clear()
            self.assertEqual(book.fields(form), ["a", "b"])
            self.assertEqual(set(book.reading(0, form)), {"a", "b"})
        self.assertEqual(book.grow(2, ("drop", "a")), 3)
        self.assertEqual(book.fields(2), ["a", "b"])

    def test_books_know_nothing_of_each_other(self):
        one, other = Book(["a"]), Book(["a"])
        one.grow(0, ("turn", "a"))
        one.make()
        self.assertEqual((other.forms(), other.records()), (1, 0))

    def test_a_thing_that_says_it_equals_a_number_is_none(self):
        for thing in (Echo(), Thorn()):
            with self.assertRaises(NoForm):
                grown(3).fields(thing)
