"""Coverings of trees by pieces, and the least length that they can have."""

from piecelay.checks import is_tagged
from piecelay.errors import NoCover
from piecelay.pieces import found_in, need_set
from piecelay.trees import need_tree, walked

MOST_NEAR = 9
CALL_CELLS = 3

# A pick's jump ahead of its second tree and that behind it, each as the near and the far instruction.
AHEAD = (10, 11)
BEHIND = (8, 9)


def jump_over(many, kinds):
    """Tell the cells of a jump over so many cells, a near one if it reaches."""
    near, far = kinds
    if many <= MOST_NEAR:
        return [near, many]
    return [far, many % 100, many // 100]


def jumps_of_pick(second, third):
    """Tell the cells of a pick's two jumps, where its second and its third tree have so many cells."""
    behind = jump_over(third, BEHIND)
    ahead = jump_over(second + len(behind), AHEAD)
    return ahead, behind


def ways_of(tree, some):
    """Tell the ways to cover a tree, each with its name, its own cells and the trees that are left to cover."""
    if tree[0] == "pick":
        # The jumps depend on what covers its trees, so a pick has no cells yet.
        return [("pick", (), tree[1:])]
    ways = []
    for piece in some:
        found = found_in(piece, tree)
        if found is not None:
            ways.append((piece[0], piece[2], found[0]))
    return ways


def length_by(name, cells, lengths):
    """Tell the length of a covering by a way, where the coverings within have these lengths."""
    own = len(cells)
    if name == "pick":
        ahead, behind = jumps_of_pick(lengths[1], lengths[2])
        own = len(ahead) + len(behind)
    return own + sum(lengths)


def best_by_ways(tree, some, done, bests):
    """Tell the least length and a covering of it, or None; done are trees whose bests are known."""
    # Such a leaf stands for a part that is laid elsewhere; no piece has to fit it.
    if tree[0] == "call":
        return (CALL_CELLS, ())
    best = None
    for name, cells, trees in ways_of(tree, some):
        within = [bests[done.index(one)] for one in trees]
        if any([one is None for one in within]):
            continue
        length = length_by(name, cells, [one[0] for one in within])
        # Of coverings that are as long the first piece's stays, so that equal things give equal answers.
        if best is None or length < best[0]:
            best = (length, (name, tuple([one[1] for one in within])))
    return best


def best_covering(tree, some):
    """Tell the least length and a covering of it, of a tree in which calls may stand."""
    done = []
    bests = []
    # A part stands ahead of what is within it, so from the last one on all that it needs is known.
    for part in reversed(walked(tree)):
        bests.append(best_by_ways(part, some, done, bests))
        done.append(part)
    if bests[-1] is None:
        raise NoCover("the pieces do not cover this tree")
    return bests[-1]


def is_covered_by(tree, some, thing):
    """Tell whether the thing is a covering, where the tree and the set are known to be right."""
    if not is_tagged(thing) or len(thing) != 2 or not isinstance(thing[1], tuple):
        return False
    for name, cells, trees in ways_of(tree, some):
        if name == thing[0]:
            return are_covered_by(trees, some, thing[1])
    return False


def are_covered_by(trees, some, things):
    """Tell whether there are as many things as trees, each a covering of its tree."""
    if len(trees) != len(things):
        return False
    return all([is_covered_by(tree, some, thing) for tree, thing in zip(trees, things)])


def length_of(tree, some):
    """Tell the least length of a covering."""
    need_tree(tree)
    need_set(some)
    return best_covering(tree, some)[0]


def covering(tree, some):
    """Tell a covering of least length."""
    need_tree(tree)
    need_set(some)
    return best_covering(tree, some)[1]


def is_covering(tree, some, thing):
    """Tell whether the thing is a covering of the tree."""
    need_tree(tree)
    need_set(some)
    return is_covered_by(tree, some, thing)
