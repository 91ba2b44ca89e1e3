"""What several tests need: how a refusal is checked, things of other kinds, long numbers."""

from bendproof.errors import BendError, NoBox, NoLine, NoNet, NoRatio, NoText, Unlike

REFUSALS = (NoRatio, NoText, NoBox, NoNet, Unlike, NoLine)


class Indexed:
    """Can stand in for an int in Python, and is none."""

    def __index__(self):
        return 2

    __int__ = __index__


class Touchy:
    """Fails when it is held against anything."""

    def __eq__(self, other):
        raise RuntimeError("held against something")

    __hash__ = None

    def __bool__(self):
        raise RuntimeError("asked for its truth")

    __len__ = __bool__


def strange_things():
    """Things that are neither whole numbers nor texts."""
    return [True, False, None, 0.0, 1.0, float("nan"), float("inf"), 1j, b"", b"1", [], [1], [1, 2], (), (1,),
            (1, 2), (2, 4), {}, {1: 2}, set(), {1}, frozenset(), range(3), object(), int, str, len, NoRatio,
            NoRatio("1"), Indexed(), Touchy(), lambda: 1, ...]


def assert_refused(test, refusal, call, *things):
    """The call is refused with just this refusal, which is none of the others."""
    with test.assertRaises(BendError) as caught:
        call(*things)
    error = caught.exception
    test.assertIsInstance(error, ValueError)
    for other in REFUSALS:
        test.assertEqual(isinstance(error, other), other is refusal, other)


def long_number(many, start):
    """A number of so many times nine figures, and its figures; Python's own str may refuse it."""
    number = 0
    pieces = []
    piece = start
    for _ in range(many):
        piece = 100000000 + (piece * 48271 + 11) % 899999999
        number = number * 10 ** 9 + piece
        pieces.append(str(piece))
    return number, "".join(pieces)
