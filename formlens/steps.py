"""Names, numbers and steps, and where a step leads: the names behind it, and readings forth and back."""

from formlens.errors import BadForm, BadNumber, NoField, Taken

LONGEST_NAME = 8
MOST_NAMES = 12
LEAST_SIZE = 2
GREATEST_SIZE = 1000000


def is_name(thing):
    """Whether the thing is a text of 1 to 8 small letters a to z."""
    if not isinstance(thing, str):
        return False
    return 1 <= len(thing) <= LONGEST_NAME and all(["a" <= sign <= "z" for sign in thing])


def is_number(thing):
    """Whether the thing is a whole number; True and False are none."""
    return isinstance(thing, int) and not isinstance(thing, bool)


def is_size(thing):
    """Whether the thing may stand as the size of a part or a join."""
    return is_number(thing) and LEAST_SIZE <= thing <= GREATEST_SIZE


def are_two_names(high, low):
    """Whether both are names, and different ones."""
    return is_name(high) and is_name(low) and high != low


def is_step(thing):
    """Whether the thing is a step, whatever form it may fit."""
    # The first part is asked for its kind ahead of the patterns: a thing of another kind may
    # say of itself that it equals a text.
    if not isinstance(thing, tuple) or len(thing) == 0 or not isinstance(thing[0], str):
        return False
    match thing:
        case ("add", name, first):
            return is_name(name) and is_number(first)
        case ("drop", name):
            return is_name(name)
        case ("name", old, new):
            return is_name(old) and is_name(new)
        case ("shift", name, n):
            return is_name(name) and is_number(n)
        case ("turn", name):
            return is_name(name)
        case ("part", name, high, low, size):
            return is_name(name) and are_two_names(high, low) and is_size(size)
        case ("join", high, low, name, size):
            return is_name(name) and are_two_names(high, low) and is_size(size)
        case _:
            return False


def names_begun_from(step):
    """The names of the elder form that the step begins from; the first is the one whose place is kept."""
    match step:
        case ("add", _, _):
            return []
        case ("join", high, low, _, _):
            return [high, low]
        case _:
            return [step[1]]


def names_brought(step):
    """The names of the newer form that the step brings, in order."""
    match step:
        case ("drop", _):
            return []
        case ("name", _, new):
            return [new]
        case ("part", _, high, low, _):
            return [high, low]
        case ("join", _, _, name, _):
            return [name]
        case _:
            return [step[1]]


def refuse_bad_length(names):
    """Raises BadForm where these are too few or too many names for one form."""
    if not 1 <= len(names) <= MOST_NAMES:
        raise BadForm("a form has 1 to 12 names")


def names_placed(names, begun, brought):
    """The names, with those brought in the place of the first begun from, or behind all where there is none."""
    if len(begun) == 0:
        return [*names, *brought]
    placed = []
    for name in names:
        if name == begun[0]:
            placed.extend(brought)
        elif name not in begun:
            placed.append(name)
    return placed


def names_behind(step, names):
    """The newer form's names, in order, of the elder form's; raises NoField, Taken or BadForm, in this order."""
    begun = names_begun_from(step)
    brought = names_brought(step)
    for name in begun:
        if name not in names:
            raise NoField("the elder form has not the name that the step begins from")
    for name in brought:
        if name in names and name not in begun:
            raise Taken("the elder form has the name that the step brings")
    newer = names_placed(names, begun, brought)
    refuse_bad_length(newer)
    return newer


def numbers_forth(step, reading, own):
    """The numbers of the names that the step brings."""
    match step:
        case ("add", name, _):
            return {name: own}
        case ("name", old, new):
            return {new: reading[old]}
        case ("shift", name, n):
            return {name: reading[name] + n}
        case ("turn", name):
            return {name: 0 - reading[name]}
        case ("part", name, high, low, size):
            whole, left = divmod(reading[name], size)
            return {high: whole, low: left}
        case ("join", high, low, name, size):
            return {name: reading[high] * size + reading[low]}
        case _:
            return {}


def forth(step, reading, own):
    """The newer form's reading, of the elder form's; own is the number that an add brings."""
    begun = names_begun_from(step)
    newer = {name: reading[name] for name in reading if name not in begun}
    newer.update(numbers_forth(step, reading, own))
    return newer


def whole_of_parts(high, low, size):
    """The number that was parted; raises BadNumber where no number parts so."""
    if not 0 <= low < size:
        raise BadNumber("the low of a part is from 0 to one less than the size")
    return high * size + low


def parts_of_joined(joined, low_so_far, size):
    """High and low of a joined number."""
    # Low keeps what it had beyond the size. Else a change in the newer form, taken back there,
    # would not bring the elder numbers back.
    beyond = low_so_far // size
    whole, left = divmod(joined, size)
    return whole - beyond, left + beyond * size


def numbers_back(step, reading, elder):
    """The numbers of the names that the step begins from."""
    match step:
        case ("drop", name):
            return {name: elder[name]}
        case ("name", old, new):
            return {old: reading[new]}
        case ("shift", name, n):
            return {name: reading[name] - n}
        case ("turn", name):
            return {name: 0 - reading[name]}
        case ("part", name, high, low, size):
            return {name: whole_of_parts(reading[high], reading[low], size)}
        case ("join", high, low, name, size):
            high_number, low_number = parts_of_joined(reading[name], elder[low], size)
            return {high: high_number, low: low_number}
        case _:
            return {}


def back(step, reading, elder):
    """The elder form's reading, of the newer form's and of the elder one so far; raises BadNumber."""
    brought = names_brought(step)
    older = {name: reading[name] for name in reading if name not in brought}
    older.update(numbers_back(step, reading, elder))
    return older
