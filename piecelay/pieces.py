"""Pieces of code, the patterns they lie ready for, and their contracts."""

from piecelay.checks import MANY_ARGS, is_name, is_tagged, is_whole, need_size
from piecelay.errors import Fault, NoPiece, NoSet
from piecelay.machine import MOST_CELL, Machine, instruction_at
from piecelay.trees import is_node, need_tree, reckoned, trees_within

MOST_PATTERN_DEEP = 3
MOST_GAP = 9999
MOST_PIECE_CELLS = 12
MOST_PIECES = 16
MOST_TRIED_SIZE = 5
MARK_LENGTHS = {"hole": 2, "gap": 3, "slot": 2}
FILLED_FROM = {"low": "gap", "high": "gap", "arg": "slot"}
STRAIGHT = ("put", "far", "load", "add", "sub", "mul", "less", "more", "twice", "about")
TRIED_NUMS = (0, 1, 2, 99, 100, 9999)
BENEATH_HOLES = 1

BASIC = [
    ("one", ("gap", 0, 99), (1, ("low", 0))),
    ("two", ("gap", 0, 9999), (2, ("low", 0), ("high", 0))),
    ("slot", ("slot", 0), (3, ("arg", 0))),
    ("add", ("add", ("hole", 0), ("hole", 1)), (4,)),
    ("sub", ("sub", ("hole", 0), ("hole", 1)), (5,)),
    ("mul", ("mul", ("hole", 0), ("hole", 1)), (6,)),
    ("less", ("less", ("hole", 0), ("hole", 1)), (7,)),
    ("more", ("add", ("hole", 0), ("gap", 0, 99)), (12, ("low", 0))),
]


def is_mark(thing):
    """Tell whether it is made like a hole, a gap or a slot."""
    if not is_tagged(thing) or len(thing) != MARK_LENGTHS.get(thing[0], 0):
        return False
    # Two marks of a kind at most, numbered from 0 on, so no number beyond 1 can be right.
    if not is_whole(thing[1], 0, 1):
        return False
    return thing[0] != "gap" or is_whole(thing[2], 0, MOST_GAP)


def is_pattern_part(thing, deep):
    """Tell whether it may stand so deep in a pattern, however its marks are numbered."""
    if deep > MOST_PATTERN_DEEP:
        return False
    if is_mark(thing):
        return True
    if not is_node(thing) or thing[0] in ("arg", "pick"):
        return False
    return all([is_pattern_part(within, deep + 1) for within in trees_within(thing)])


def marks_in(pattern, kind):
    """Tell the marks of a kind in a pattern, from left to right."""
    if pattern[0] == kind:
        return [pattern]
    marks = []
    for within in trees_within(pattern):
        marks.extend(marks_in(within, kind))
    return marks


def is_numbered(pattern, kind):
    """Tell whether the marks of a kind are numbered from 0 on."""
    numbers = [mark[1] for mark in marks_in(pattern, kind)]
    return numbers == list(range(len(numbers)))


def is_pattern(thing):
    """Tell whether it is a pattern."""
    if not is_pattern_part(thing, 1) or thing[0] == "hole":
        return False
    return all([is_numbered(thing, kind) for kind in MARK_LENGTHS])


def is_filling(thing, pattern):
    """Tell whether it stands for a number of one of the pattern's gaps or slots."""
    if not is_tagged(thing) or len(thing) != 2 or thing[0] not in FILLED_FROM:
        return False
    return is_whole(thing[1], 0, len(marks_in(pattern, FILLED_FROM[thing[0]])) - 1)


def is_cell(thing, pattern):
    """Tell whether it may stand behind the cell that tells an instruction."""
    return is_whole(thing, 0, MOST_CELL) or is_filling(thing, pattern)


def are_instructions(cells, pattern):
    """Tell whether the cells of a piece are whole instructions that go straight on."""
    place = 0
    while place < len(cells):
        if not is_whole(cells[place], 0, MOST_CELL):
            return False
        try:
            name, behind = instruction_at(cells, place)
        except Fault:
            return False
        if name not in STRAIGHT or not all([is_cell(cell, pattern) for cell in behind]):
            return False
        place += 1 + len(behind)
    return True


def is_piece(thing):
    """Tell whether it is a piece."""
    if not isinstance(thing, tuple) or len(thing) != 3:
        return False
    name, pattern, cells = thing
    # In a covering this name tells a pick, so no piece may have it.
    if not is_name(name) or name == "pick" or not is_pattern(pattern):
        return False
    if not isinstance(cells, tuple) or not 1 <= len(cells) <= MOST_PIECE_CELLS:
        return False
    return are_instructions(cells, pattern)


def need_piece(piece):
    """Refuse what is no piece."""
    if not is_piece(piece):
        raise NoPiece("this is no piece")


def is_set(thing):
    """Tell whether it is a set of pieces: a list of 1 to 16 with unlike names."""
    if not isinstance(thing, list) or not 1 <= len(thing) <= MOST_PIECES:
        return False
    if not all([is_piece(piece) for piece in thing]):
        return False
    return len(set([piece[0] for piece in thing])) == len(thing)


def need_set(some):
    """Refuse what is no set of pieces."""
    if not is_set(some):
        raise NoSet("a set is a list of 1 to 16 pieces with unlike names")


def may_stand_for(mark, tree):
    """Tell whether a hole, a gap or a slot may stand for the tree."""
    if mark[0] == "gap":
        return tree[0] == "num" and tree[1] <= mark[2]
    return mark[0] == "hole" or tree[0] == "arg"


def matches(pattern, tree, found):
    """Tell whether the pattern fits; what its marks stand for is put into the found lists, by kind."""
    kind = pattern[0]
    if kind in MARK_LENGTHS:
        if not may_stand_for(pattern, tree):
            return False
        found[kind].append(tree if kind == "hole" else tree[1])
        return True
    if tree[0] != kind:
        return False
    if kind == "num":
        return tree[1] == pattern[1]
    return matches(pattern[1], tree[1], found) and matches(pattern[2], tree[2], found)


def found_in(piece, tree):
    """Tell what fits tells, where both are known to be right."""
    found = {"hole": [], "gap": [], "slot": []}
    if not matches(piece[1], tree, found):
        return None
    return (tuple(found["hole"]), tuple(found["gap"]), tuple(found["slot"]))


def fits(piece, tree):
    """Tell the holes' trees, the gaps' nums and the slots' ks, or None where the pattern does not fit."""
    need_piece(piece)
    need_tree(tree)
    return found_in(piece, tree)


def filled_cell(cell, nums, ks):
    """Tell the number that a piece's cell is, where its gaps and slots stand for these."""
    if isinstance(cell, int):
        return cell
    if cell[0] == "low":
        return nums[cell[1]] % 100
    if cell[0] == "high":
        return nums[cell[1]] // 100
    return ks[cell[1]]


def filled_pattern(pattern, trial):
    """Tell the tree that a pattern is in a trial, a hole's number being a num."""
    kind = pattern[0]
    holes, nums, ks, args = trial
    if kind == "hole":
        return ("num", holes[pattern[1]])
    if kind == "gap":
        return ("num", nums[pattern[1]])
    if kind == "slot":
        return ("arg", ks[pattern[1]])
    if kind == "num":
        return pattern
    return (kind, filled_pattern(pattern[1], trial), filled_pattern(pattern[2], trial))


def keeps(piece, trial, size):
    """Tell whether a piece keeps its contract in a trial."""
    name, pattern, cells = piece
    holes, nums, ks, args = trial
    laid_cells = [filled_cell(cell, nums, ks) for cell in cells]
    machine = Machine(laid_cells, args, size, [BENEATH_HOLES] + list(holes))
    try:
        while machine.place < len(laid_cells):
            machine.step()
    except Fault:
        return False
    return machine.pile == [BENEATH_HOLES, reckoned(filled_pattern(pattern, trial), args, size)]


def rows_of(choices):
    """Tell all tuples of one of each of the choices; of rising choices they rise."""
    rows = [()]
    for some in choices:
        rows = [row + (one,) for row in rows for one in some]
    return rows


def args_for(ks, size):
    """Tell all args in which those that no slot stands for are 0."""
    return rows_of([list(range(size)) if k in ks else [0] for k in range(MANY_ARGS)])


def failing(piece, *, size):
    """Tell the first trial for which a piece does not keep its contract, or None."""
    need_piece(piece)
    need_size(size, MOST_TRIED_SIZE)
    pattern = piece[1]
    all_holes = rows_of([list(range(size)) for mark in marks_in(pattern, "hole")])
    all_nums = rows_of([[num for num in TRIED_NUMS if num <= mark[2]] for mark in marks_in(pattern, "gap")])
    all_ks = rows_of([list(range(MANY_ARGS)) for mark in marks_in(pattern, "slot")])
    for holes in all_holes:
        for nums in all_nums:
            for ks in all_ks:
                for args in args_for(ks, size):
                    trial = (holes, nums, ks, args)
                    if not keeps(piece, trial, size):
                        return trial
    return None
