"""Coverings, laid as code."""

from piecelay.covers import best_covering, is_covered_by, jumps_of_pick
from piecelay.errors import NoCover
from piecelay.pieces import filled_cell, found_in, need_set
from piecelay.trees import need_tree

END = 0
CALL = 15


def laid_pick(tree, some, cover, places):
    """Tell the cells of a covering of a pick."""
    first, second, third = [laid_cells(one, some, within, places) for one, within in zip(tree[1:], cover[1])]
    ahead, behind = jumps_of_pick(len(second), len(third))
    return first + ahead + second + behind + third


def laid_piece(tree, some, cover, places):
    """Tell the cells of a covering by a piece."""
    name, within = cover
    piece = [one for one in some if one[0] == name][0]
    holes, nums, ks = found_in(piece, tree)
    cells = []
    for hole, inner in zip(holes, within):
        cells.extend(laid_cells(hole, some, inner, places))
    return cells + [filled_cell(cell, nums, ks) for cell in piece[2]]


def laid_cells(tree, some, cover, places):
    """Tell the cells of a covering; the places are those that the calls in the tree go to, by their numbers."""
    # The tree tells what is to be laid, not the covering's name: a piece may well be named call.
    if tree[0] == "call":
        place = places[tree[1]]
        return [CALL, place % 100, place // 100]
    if tree[0] == "pick":
        return laid_pick(tree, some, cover, places)
    return laid_piece(tree, some, cover, places)


def code_of(tree, some):
    """Tell the code of a tree, where both are known to be right."""
    length, cover = best_covering(tree, some)
    return laid_cells(tree, some, cover, []) + [END]


def lay(tree, some):
    """Tell the code of a tree: a covering of least length, laid, and end."""
    need_tree(tree)
    need_set(some)
    return code_of(tree, some)


def laid(tree, some, thing):
    """Tell the code of a covering that is handed in."""
    need_tree(tree)
    need_set(some)
    if not is_covered_by(tree, some, thing):
        raise NoCover("this is no covering of the tree")
    return laid_cells(tree, some, thing, []) + [END]
