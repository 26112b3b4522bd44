"""What several tests use: things of all kinds, and a look at whether a call changes what it is handed."""

import copy

TWELVE = list("abcdefghijkl")
LARGE = 10 ** 59 + 7


class Echo:
    """Equals whatever it is compared with."""

    def __eq__(self, other):
        return True

    def __ne__(self, other):
        return False

    def __hash__(self):
        return hash("a")


class Thorn:
    """Can be neither compared nor shown."""

    def __eq__(self, other):
        raise RuntimeError("compared")

    def __hash__(self):
        return hash("a")

    def __repr__(self):
        raise RuntimeError("shown")


NO_TEXTS = [None, True, False, 0, 1, 1.0, b"a", [], ["a"], ("a",), {}, {"a": 1}, {"a"}, object(), Echo(), Thorn()]
NO_NAMES = NO_TEXTS + ["", "abcdefghi", "A", "aB", "a1", "1", "a b", " a", "a ", "a\n", "\n", "a_b", "a-b", "a.", "`", "{"]
NO_NUMBERS = [None, True, False, 0.0, 1.0, 1.5, "1", "", b"1", [], [1], (1,), {}, {1}, 1j, object(), Echo(), Thorn()]
NO_STEPS = [
    None, True, 3, "add", "", [], {}, object(), Echo(), Thorn(), (),
    ["add", "a", 1], ["drop", "a"], ["part", "a", "h", "l", 60],
    ("add",), ("drop",), ("name",), ("shift",), ("turn",), ("part",), ("join",),
    ("add", "a"), ("add", "a", 1, 1), ("drop", "a", "b"), ("name", "a"), ("name", "a", "b", "c"),
    ("shift", "a"), ("shift", "a", 1, 1), ("turn", "a", 1),
    ("part", "a", "h", "l"), ("part", "a", "h", "l", 60, 60), ("part", "a", "h", 60),
    ("join", "h", "l", "a"), ("join", "h", "l", "a", 60, 60), ("join", "h", "a", 60),
    ("part", "a", "h", "h", 60), ("part", "a", "a", "a", 60), ("join", "h", "h", "a", 60), ("join", "a", "a", "a", 60),
    ("part", "a", "h", "l", 1), ("part", "a", "h", "l", 0), ("part", "a", "h", "l", -60),
    ("part", "a", "h", "l", 1000001), ("part", "a", "h", "l", LARGE),
    ("join", "h", "l", "a", 1), ("join", "h", "l", "a", 0), ("join", "h", "l", "a", -60),
    ("join", "h", "l", "a", 1000001), ("join", "h", "l", "a", LARGE),
    ("Add", "a", 1), ("add ", "a", 1), ("keep", "a"), ("", "a"), ("a", "drop"), ("adds", "a", 1),
    (None, "a"), (1, "a"), ([], "a"), ({}, "a"), (b"drop", "a"), (("drop",), "a"),
    (Echo(), "a"), (Echo(), "a", 1), (Echo(), "a", "b"), (Thorn(), "a"),
]
STEPS = [
    ("add", "d", 5), ("add", "d", -LARGE), ("drop", "a"),
    ("name", "a", "d"), ("name", "a", "a"), ("name", "c", "d"),
    ("shift", "a", 7), ("shift", "b", -LARGE), ("shift", "c", 0), ("turn", "b"),
    ("part", "a", "h", "l", 60), ("part", "a", "b", "a", 2), ("part", "a", "h", "a", 7), ("part", "c", "c", "l", 1000000),
    ("join", "a", "b", "d", 60), ("join", "b", "a", "a", 2), ("join", "a", "b", "b", 1000000), ("join", "a", "c", "a", 7),
]


def call_unharmed(test, action, *handed):
    """What the action gives; fails the test where the action changes what it is handed, also where it refuses."""
    kept = copy.deepcopy(handed)
    try:
        return action(*handed)
    finally:
        test.assertEqual(kept, handed)
        for was, now in zip(kept, handed):
            if isinstance(was, dict):
                test.assertEqual(list(was.items()), list(now.items()))
