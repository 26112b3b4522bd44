"""Books: forms that are made of one another by steps, and the records that are shown in them."""

from formlens.errors import BadName, BadNumber, BadStep, NoField, NoForm, NoRecord, Taken, TooMany
from formlens.steps import back, forth, is_name, is_number, is_step, names_behind, refuse_bad_length

MOST_FORMS = 30


def refuse_bad_names(names):
    """Raises BadForm, BadName or Taken, in this order, where form 0 can not have these names."""
    refuse_bad_length(names)
    for name in names:
        if not is_name(name):
            raise BadName("a name is a text of 1 to 8 small letters")
    if len(set(names)) != len(names):
        raise Taken("a form has each of its names once")


def refuse_bad_numbers(numbers, names):
    """Raises NoField or BadNumber, in this order, where a form of these names can not be told these numbers."""
    for name in numbers:
        # What is no name is not compared: it may say of itself that it equals one.
        if not is_name(name) or name not in names:
            raise NoField("the form has not the name that is told")
    for name in numbers:
        if not is_number(numbers[name]):
            raise BadNumber("what is told for a name is a whole number")


def tells_one_of(thing, many):
    """Whether the thing is a number from 0 to one less than many."""
    return is_number(thing) and 0 <= thing < many


class Book:
    """Forms, numbered from 0 on, and records, numbered from 0 on, that are read and changed in each form."""

    def __init__(self, names):
        refuse_bad_names(names)
        # Of each form: its names, the elder form's number, the step.
        self._names = [list(names)]
        self._elders = [None]
        self._steps = [None]
        # Of each record: its reading in form 0, and its own numbers by form. An add's form that
        # is not in the latter has the add's first, so a later form needs no look at the records.
        self._kept = []
        self._owns = []

    def grow(self, form, step):
        """Makes a newer form; its number."""
        self._refuse_no_form(form)
        if not is_step(step):
            raise BadStep("what is told is no step")
        names = names_behind(step, self._names[form])
        if len(self._names) >= MOST_FORMS:
            raise TooMany("a book has at most thirty forms")
        self._names.append(names)
        self._elders.append(form)
        self._steps.append(step)
        return len(self._names) - 1

    def forms(self):
        """How many forms there are."""
        return len(self._names)

    def fields(self, form):
        """The form's names, in order."""
        self._refuse_no_form(form)
        return list(self._names[form])

    def elder(self, form):
        """The elder form's number, None for form 0."""
        self._refuse_no_form(form)
        return self._elders[form]

    def step(self, form):
        """The step by which the form was made, None for form 0."""
        self._refuse_no_form(form)
        return self._steps[form]

    def make(self):
        """Makes a new record; its number."""
        self._kept.append({name: 0 for name in self._names[0]})
        self._owns.append({})
        return len(self._kept) - 1

    def records(self):
        """How many records there are."""
        return len(self._kept)

    def reading(self, record, form):
        """The record's reading in the form."""
        self._refuse_no_record(record)
        self._refuse_no_form(form)
        return self._readings(self._kept[record], self._owns[record])[form]

    def change(self, record, form, numbers):
        """Puts other numbers in the form's reading; the list of forms that read otherwise then."""
        self._refuse_no_record(record)
        self._refuse_no_form(form)
        refuse_bad_numbers(numbers, self._names[form])
        before = self._readings(self._kept[record], self._owns[record])
        told = {**before[form], **numbers}
        # All is worked out ahead of the first assignment: a refusal changes nothing.
        kept, owns = self._led_back(form, told, before, self._owns[record])
        after = self._readings(kept, owns)
        self._kept[record] = kept
        self._owns[record] = owns
        return [at for at in range(len(after)) if after[at] != before[at]]

    def _refuse_no_form(self, form):
        if not tells_one_of(form, len(self._names)):
            raise NoForm("no form is told by this")

    def _refuse_no_record(self, record):
        if not tells_one_of(record, len(self._kept)):
            raise NoRecord("no record is told by this")

    def _own_number(self, form, owns):
        """The own number of an add's form, None for a form that was made by another step."""
        step = self._steps[form]
        if step[0] != "add":
            return None
        return owns.get(form, step[2])

    def _readings(self, kept, owns):
        """The list of a record's readings in all forms, each of them a new dict."""
        readings = [dict(kept)]
        for form in range(1, len(self._steps)):
            elder_reading = readings[self._elders[form]]
            readings.append(forth(self._steps[form], elder_reading, self._own_number(form, owns)))
        return readings

    def _led_back(self, form, reading, before, owns):
        """What is kept and the own numbers, where the record shall read so in the form; raises BadNumber."""
        owns_then = dict(owns)
        while form != 0:
            step = self._steps[form]
            elder = self._elders[form]
            if step[0] == "add":
                owns_then[form] = reading[step[1]]
            reading = back(step, reading, before[elder])
            form = elder
        return reading, owns_then
