"""What several test files share."""

from gavelhall import errors


class Stranger:
    """Something that has nothing to do with numbers and can't be compared or shown."""

    def __eq__(self, other):
        raise RuntimeError("compared")

    def __repr__(self):
        raise RuntimeError("shown")

    __hash__ = None


# (what it is, the thing): none of these is a whole number.
NO_WHOLES = [
    ("True", True),
    ("False", False),
    ("None", None),
    ("the text without signs", ""),
    ("a text of figures", "7"),
    ("a text of a ratio", "1/2"),
    ("bytes", b"7"),
    ("the tuple of nothing", ()),
    ("a tuple of one", (1,)),
    ("a ratio", (1, 2)),
    ("a whole ratio", (3, 1)),
    ("the list of nothing", []),
    ("a list", [1]),
    ("a list of two", [1, 2]),
    ("a dict", {1: 2}),
    ("a set", {1}),
    ("a range", range(3)),
    ("the class int", int),
    ("a function", abs),
    ("an error", ValueError("7")),
    ("a stranger", Stranger()),
]

# (what it is, the thing): none of these is one to eight small letters.
NO_NAMES = [
    ("no signs", ""),
    ("nine letters", "abcdefghi"),
    ("many letters", "a" * 2000),
    ("a great letter", "A"),
    ("a great letter behind", "abC"),
    ("a figure", "7"),
    ("a figure behind", "ab7"),
    ("a blank", " "),
    ("a blank ahead", " ab"),
    ("a blank behind", "ab "),
    ("a blank between", "a b"),
    ("a tab", "a\tb"),
    ("a line end", "ab\n"),
    ("a line end alone", "\n"),
    ("an underscore", "a_b"),
    ("a plus", "a+b"),
    ("a minus", "-"),
    ("the sign ahead of a", "`"),
    ("the sign behind z", "z{"),
    ("a number", 7),
    ("nought", 0),
    ("a list of a name", ["ab"]),
    ("a tuple of a name", ("ab",)),
    ("a tuple of a name and a kind", ("ab", "ab")),
    ("a dict of a name", {"ab": 0}),
] + [(what, thing) for what, thing in NO_WHOLES if not isinstance(thing, str)]

# The refusals that stand right under HallError.
REFUSALS = [
    errors.NoNumber,
    errors.NoBundle,
    errors.NoBid,
    errors.NoText,
    errors.NoName,
    errors.NoRow,
    errors.NoPaper,
    errors.TooMany,
    errors.BadStep,
    errors.TooLate,
]


def same(case, told, asked):
    """Equal, and of the same kinds all through: 1 and True are not the same here."""
    case.assertEqual(repr(told), repr(asked))


def refused(case, kind, call, *handed):
    """The refusal, which is of this kind and of none of the others."""
    with case.assertRaises(errors.HallError) as taken:
        call(*handed)
    case.assertIsInstance(taken.exception, ValueError)
    for one in REFUSALS:
        case.assertEqual(isinstance(taken.exception, one), one is kind)
    return taken.exception
