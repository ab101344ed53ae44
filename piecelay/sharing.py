"""Parts of a tree that are laid once and called."""

from piecelay.covers import best_covering
from piecelay.errors import NoCover, NoParts
from piecelay.laying import END, code_of, laid_cells
from piecelay.pieces import need_set
from piecelay.trees import is_tree, need_tree, trees_within, walked

BACK = 16
MOST_SHARED = 6


def are_parts(thing, tree):
    """Tell whether it is a list of up to 6 unlike parts of the tree."""
    if not isinstance(thing, list) or len(thing) > MOST_SHARED:
        return False
    if not all([is_tree(part) for part in thing]):
        return False
    there = walked(tree)
    return all([part in there and part not in thing[:at] for at, part in enumerate(thing)])


def need_parts(parts, tree):
    """Refuse what is no list of up to 6 unlike parts of the tree."""
    if not are_parts(parts, tree):
        raise NoParts("these are not up to 6 unlike parts of the tree")


def with_calls(tree, parts):
    """Tell the tree with calls in the places of the parts, numbered from 1 on; itself it may be one."""
    if tree in parts:
        return ("call", parts.index(tree) + 1)
    return with_calls_within(tree, parts)


def with_calls_within(tree, parts):
    """Tell the tree with calls in the places of the parts that stand in it, but not of itself."""
    within = trees_within(tree)
    if not within:
        return tree
    return (tree[0],) + tuple([with_calls(one, parts) for one in within])


def code_once(tree, some, parts):
    """Tell the code with the parts laid once, where all is known to be right."""
    roots = [with_calls(tree, parts)] + [with_calls_within(part, parts) for part in parts]
    closings = [END] + [BACK] * len(parts)
    bests = [best_covering(root, some) for root in roots]
    places = []
    place = 0
    for length, cover in bests:
        places.append(place)
        place += length + 1
    code = []
    for root, (length, cover), closing in zip(roots, bests, closings):
        code.extend(laid_cells(root, some, cover, places))
        code.append(closing)
    return code


def lay_once(tree, some, parts):
    """Tell the code of a tree with these parts of it laid once, behind the end."""
    need_tree(tree)
    need_set(some)
    need_parts(parts, tree)
    return code_once(tree, some, parts)


def gain(tree, some, part):
    """Tell how many cells less the code has with the part alone laid once."""
    need_tree(tree)
    need_set(some)
    need_parts([part], tree)
    return len(code_of(tree, some)) - len(code_once(tree, some, [part]))


def best_part(tree, some):
    """Tell the part that gains most, or None where none gains."""
    need_tree(tree)
    need_set(some)
    plain = len(code_of(tree, some))
    best = None
    most = 0
    for part in walked(tree):
        try:
            gained = plain - len(code_once(tree, some, [part]))
        except NoCover:
            continue
        if gained > most:
            best, most = part, gained
    return best
