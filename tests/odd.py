"""Things that are none of what the program takes, for the tests of refusals."""


class Odd:
    """An object that must not be compared, hashed or walked."""

    def __eq__(self, other):
        raise AssertionError("an unknown thing was compared")

    __hash__ = None


def nested(deep):
    """A tuple of adds that is nested so deep."""
    thing = ("num", 1)
    for _ in range(deep - 1):
        thing = ("add", thing, thing)
    return thing


def looped():
    """A list that stands in itself, within a tuple."""
    ring = ["add"]
    ring.append(ring)
    return ("add", ring, ring)


ODD = [
    None, True, False, 0, 1, -1, 10**30, "", "num", b"num", [], {}, set(), frozenset(), (), ((),), ([],), (None,),
    (Odd(), 1), Odd(), object(), len, int, range(4), ["num", 1], {"num": 1}, ({}, 1), (b"num", 1), nested(50000), looped(),
    [[]], [None], [()], [Odd()], [True], ["1"], ("num",), ("num", 1, 1), (1, 2, 3), ("a", "b", "c"), (Odd(), Odd(), Odd()),
]
