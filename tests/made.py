"""Trees and pieces for the tests, and coverings told the long way: all there are, one by one."""

import itertools

from piecelay.pieces import BASIC, fits

H0, H1 = ("hole", 0), ("hole", 1)
A0, A1, A2, A3 = ("arg", 0), ("arg", 1), ("arg", 2), ("arg", 3)

# Each of these keeps its contract: some are shorter than what BASIC lays there, some as long, some longer.
MORE = [
    ("double", ("mul", H0, ("num", 2)), (13, 4)),
    ("inc", ("add", ("num", 1), H0), (12, 1)),
    ("nought", ("mul", ("slot", 0), ("num", 0)), (1, 0)),
    ("never", ("less", H0, ("num", 0)), (13, 5)),
    ("turned", ("sub", ("gap", 0, 99), H0), (1, ("low", 0), 14, 5)),
    ("three", ("add", H0, ("add", H1, ("gap", 0, 99))), (4, 12, ("low", 0))),
    ("both", ("add", ("slot", 0), ("mul", ("slot", 1), ("num", 2))), (3, ("arg", 1), 13, 4, 3, ("arg", 0), 4)),
    ("call", ("mul", ("gap", 0, 9999), ("num", 1)), (2, ("low", 0), ("high", 0))),
]
RICH = BASIC + MORE


def without(*names):
    return [piece for piece in BASIC if piece[0] not in names]


# It keeps its contract, but is 11 cells long, so that jumps over 100 cells and places of 100 and more come about.
LONG = ("long", ("sub", H0, H1), (5, 12, 0, 12, 0, 12, 0, 12, 0, 12, 0))
LONG_SET = without("sub") + [LONG]


def subs(deep):
    """A tree so deep, of subs of A1: by LONG_SET 39, 93 and 197 cells, if it is 3, 4 and 5 deep."""
    return A1 if deep == 1 else ("sub", subs(deep - 1), subs(deep - 1))


class Numbers:
    """A row of numbers that is the same each time."""

    def __init__(self, seed):
        self.state = seed

    def below(self, many):
        self.state = (self.state * 1103515245 + 12345) % 2**31
        return (self.state >> 12) % many

    def one_of(self, things):
        return things[self.below(len(things))]


def made_tree(numbers, deep):
    """A tree of up to so many deep, no more than 40 parts if that is no more than 4."""
    if deep == 1 or numbers.below(6) == 0:
        return numbers.one_of([("num", numbers.one_of([0, 1, 2, 5, 99, 100, 1234, 9999])), ("arg", numbers.below(4))])
    kind = numbers.one_of(["add", "add", "mul", "mul", "sub", "less", "pick"])
    many = 3 if kind == "pick" else 2
    return (kind,) + tuple(made_tree(numbers, deep - 1) for _ in range(many))


def made_args(numbers, size):
    return tuple(numbers.below(size) for _ in range(4))


def all_laid(tree, some):
    """All coverings of a tree with their cells, as a list of pairs."""
    found = []
    if tree[0] == "pick":
        for three in itertools.product(*[all_laid(one, some) for one in tree[1:]]):
            (_, first), (_, second), (_, third) = three
            last = [8, len(third)] if len(third) < 10 else [9, len(third) % 100, len(third) // 100]
            over = len(second) + len(last)
            jump = [10, over] if over < 10 else [11, over % 100, over // 100]
            found.append((("pick", tuple(one[0] for one in three)), first + jump + second + last + third))
        return found
    for name, pattern, cells in some:
        fit = fits((name, pattern, cells), tree)
        if fit is None:
            continue
        holes, nums, ks = fit
        told = {"low": [num % 100 for num in nums], "high": [num // 100 for num in nums], "arg": ks}
        own = [cell if isinstance(cell, int) else told[cell[0]][cell[1]] for cell in cells]
        for within in itertools.product(*[all_laid(hole, some) for hole in holes]):
            ahead = [cell for one in within for cell in one[1]]
            found.append(((name, tuple(one[0] for one in within)), ahead + own))
    return found
