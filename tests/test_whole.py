"""What is promised over the whole program: points 1 and 13."""

import unittest

from formlens.book import Book
from formlens.errors import BadNumber, FormError
from formlens.steps import back, forth
from tests.samples import LARGE, call_unharmed

WIDE = [
    (0, ("part", "a", "h", "l", 60)),
    (1, ("part", "h", "g", "h", 24)),
    (1, ("add", "n", 4)),
    (3, ("join", "n", "b", "n", 10)),
    (2, ("drop", "b")),
    (5, ("shift", "g", -100)),
    (6, ("turn", "g")),
    (0, ("join", "a", "b", "b", 7)),
    (8, ("part", "b", "b", "x", 5)),
    (9, ("add", "y", -1)),
    (10, ("join", "y", "c", "c", 1000000)),
    (0, ("drop", "a")),
    (12, ("name", "b", "a")),
    (13, ("name", "a", "a")),
    (14, ("add", "b", 0)),
    (15, ("part", "c", "c", "d", 2)),
    (4, ("join", "h", "l", "l", 3)),
    (0, ("turn", "c")),
    (18, ("turn", "c")),
]
STARTS = [
    {"a": 0, "b": 0, "c": 0}, {"a": 7384, "b": 5, "c": 1}, {"a": -1, "b": -70, "c": 2000003},
    {"a": LARGE, "b": -LARGE, "c": -3}, {"a": 59, "b": 6, "c": -2000001},
]
NUMBERS = (0, 1, -1, 3, 59, 60, 131, -77, 5000000, -LARGE)


def wide_book():
    book = Book(["a", "b", "c"])
    for elder, step in WIDE:
        book.grow(elder, step)
    for record, start in enumerate(STARTS):
        book.make()
        book.change(record, 0, start)
    return book


def readings(book, record):
    return [book.reading(record, form) for form in range(book.forms())]


def tried_changes(book):
    """A record, a form and numbers for it, of many kinds; some are refused."""
    for record in range(book.records()):
        for form in range(book.forms()):
            names = book.fields(form)
            for at, number in enumerate(NUMBERS):
                yield record, form, {names[at % len(names)]: number}
                yield record, form, {name: NUMBERS[(at + 3 * k) % len(NUMBERS)] for k, name in enumerate(names)}


class TestWhole(unittest.TestCase):
    def test_what_was_changed_is_what_is_read(self):
        book = wide_book()
        done = 0
        for record, form, numbers in tried_changes(book):
            before = readings(book, record)
            try:
                told = call_unharmed(self, book.change, record, form, numbers)
            except BadNumber:
                self.assertEqual(readings(book, record), before)
                continue
            done += 1
            after = readings(book, record)
            self.assertEqual(after[form], {**before[form], **numbers})
            self.assertEqual(told, [at for at in range(book.forms()) if before[at] != after[at]])
        self.assertGreater(done, 500)

    def test_changed_and_changed_back(self):
        book = wide_book()
        done = 0
        for record, form, numbers in tried_changes(book):
            before = readings(book, record)
            try:
                told = book.change(record, form, numbers)
            except BadNumber:
                continue
            done += 1
            told_back = book.change(record, form, {name: before[form][name] for name in numbers})
            self.assertEqual(readings(book, record), before, (record, form, numbers))
            self.assertEqual(told_back, told)
        self.assertGreater(done, 500)

    def test_changed_again_and_again_and_then_back(self):
        book = wide_book()
        for record in range(book.records()):
            for form in range(book.forms()):
                before = readings(book, record)
                for number in NUMBERS:
                    for name in book.fields(form):
                        try:
                            book.change(record, form, {name: number})
                        except BadNumber:
                            pass
                book.change(record, form, before[form])
                self.assertEqual(readings(book, record), before, (record, form))

    def test_other_records_and_the_forms_stay(self):
        book = wide_book()
        forms = [(book.fields(form), book.elder(form), book.step(form)) for form in range(book.forms())]
        others = [readings(book, record) for record in range(book.records())]
        for record, form, numbers in tried_changes(book):
            if record == 2:
                try:
                    book.change(record, form, numbers)
                except BadNumber:
                    pass
        for record in (0, 1, 3, 4):
            self.assertEqual(readings(book, record), others[record])
        self.assertEqual(forms, [(book.fields(form), book.elder(form), book.step(form)) for form in range(book.forms())])

    def test_each_reading_is_forth_of_the_elder_one(self):
        book = wide_book()
        for record, form, numbers in tried_changes(book):
            try:
                book.change(record, form, numbers)
            except BadNumber:
                continue
            now = readings(book, record)
            for at in range(1, book.forms()):
                step = book.step(at)
                own = now[at][step[1]] if step[0] == "add" else None
                self.assertEqual(now[at], forth(step, now[book.elder(at)], own))

    def test_what_is_kept_is_back_of_back(self):
        book = wide_book()
        for record, form, numbers in tried_changes(book):
            before = readings(book, record)
            kept, at = {**before[form], **numbers}, form
            try:
                while at != 0:
                    kept = back(book.step(at), kept, before[book.elder(at)])
                    at = book.elder(at)
            except BadNumber:
                with self.assertRaises(BadNumber):
                    book.change(record, form, numbers)
                continue
            book.change(record, form, numbers)
            self.assertEqual(book.reading(record, 0), kept)

    def test_what_a_form_does_not_know_stays(self):
        book = Book(["a", "b", "c"])
        book.grow(0, ("drop", "a"))
        book.grow(0, ("add", "x", 7))
        book.grow(2, ("drop", "x"))
        book.grow(3, ("drop", "c"))
        book.make()
        book.change(0, 2, {"a": 4, "b": 5, "c": 6, "x": 8})
        book.change(0, 1, {"b": 50, "c": 60})
        self.assertEqual(book.reading(0, 2), {"a": 4, "b": 50, "c": 60, "x": 8})
        book.change(0, 4, {"a": 40, "b": 55})
        self.assertEqual(book.reading(0, 2), {"a": 40, "b": 55, "c": 60, "x": 8})

    def test_same_calls_give_the_same(self):
        told = []
        for _ in range(2):
            book, said = wide_book(), []
            for record, form, numbers in tried_changes(book):
                try:
                    said.append(book.change(record, form, numbers))
                except FormError as error:
                    said.append(type(error).__name__)
            told.append((said, [readings(book, record) for record in range(book.records())]))
        self.assertEqual(told[0], told[1])


class TestEitherOrder(unittest.TestCase):
    """Two steps, neither of them an add, that have no name in common."""

    one_kind = [
        ("drop", "a"), ("name", "a", "x"), ("name", "a", "a"), ("shift", "a", 9), ("turn", "a"),
        ("part", "a", "x", "y", 60), ("part", "a", "y", "a", 7), ("join", "a", "b", "x", 60), ("join", "b", "a", "a", 7),
    ]
    other_kind = [
        ("drop", "c"), ("name", "c", "z"), ("name", "c", "c"), ("shift", "c", -9), ("turn", "c"),
        ("part", "c", "z", "w", 24), ("part", "c", "c", "w", 2), ("join", "c", "d", "z", 24), ("join", "d", "c", "c", 2),
    ]
    starts = [{"a": 0, "b": 0, "c": 0, "d": 0}, {"a": 130, "b": -9, "c": -50, "d": 77}, {"a": -LARGE, "b": LARGE, "c": 5, "d": -1}]

    def pairs(self):
        for one in self.one_kind:
            for other in self.other_kind:
                book = Book(["a", "b", "c", "d"])
                ends = [book.grow(book.grow(0, one), other), book.grow(book.grow(0, other), one)]
                yield book, ends

    def test_read_the_same(self):
        for book, (end, other_end) in self.pairs():
            for record, start in enumerate(self.starts):
                book.make()
                book.change(record, 0, start)
                self.assertEqual(book.reading(record, end), book.reading(record, other_end))

    def test_change_the_same(self):
        for book, (end, other_end) in self.pairs():
            for record, start in enumerate(self.starts):
                book.make()
                numbers = {book.fields(end)[0]: 1}
                kept = []
                for form in (end, other_end):
                    book.change(record, 0, start)
                    told = book.change(record, form, numbers)
                    self.assertEqual(end in told, other_end in told)
                    kept.append(book.reading(record, 0))
                self.assertEqual(kept[0], kept[1])
