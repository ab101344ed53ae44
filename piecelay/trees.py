"""Trees that reckon, and what they are worth."""

from piecelay.checks import is_tagged, is_whole, need_args, need_size
from piecelay.errors import NoTree

MOST_PARTS = 40
MOST_DEEP = 8
MOST_IN_LEAF = {"num": 9999, "arg": 3}
TREES_IN_BRANCH = {"add": 2, "sub": 2, "mul": 2, "less": 2, "pick": 3}


def is_node(thing):
    """Tell whether it is made like a tree, whatever stands where its trees should."""
    if not is_tagged(thing):
        return False
    kind = thing[0]
    if kind in MOST_IN_LEAF:
        return len(thing) == 2 and is_whole(thing[1], 0, MOST_IN_LEAF[kind])
    return kind in TREES_IN_BRANCH and len(thing) == 1 + TREES_IN_BRANCH[kind]


def trees_within(tree):
    """Tell the trees that stand straight in this one, in order."""
    if tree[0] in TREES_IN_BRANCH:
        return tree[1:]
    return ()


def is_tree(thing):
    """Tell whether it is a tree."""
    # No recursion here: what is no tree may be nested deeper than Python goes.
    waiting = [(thing, 1)]
    parts = 0
    while waiting:
        part, deep = waiting.pop()
        parts += 1
        if parts > MOST_PARTS or deep > MOST_DEEP or not is_node(part):
            return False
        waiting.extend([(within, deep + 1) for within in trees_within(part)])
    return True


def need_tree(tree):
    """Refuse what is no tree."""
    if not is_tree(tree):
        raise NoTree("this is no tree")


def worth_of_both(kind, first, second, size):
    """Tell what add, sub, mul or less make of two numbers of the size."""
    if kind == "less":
        return 1 if first < second else 0
    if kind == "add":
        return (first + second) % size
    if kind == "sub":
        return (first - second) % size
    return first * second % size


def reckoned(tree, args, size):
    """Tell what a tree is worth, of which all is known to be right."""
    kind = tree[0]
    if kind == "num":
        return tree[1] % size
    if kind == "arg":
        return args[tree[1]]
    first = reckoned(tree[1], args, size)
    if kind == "pick":
        return reckoned(tree[3] if first == 0 else tree[2], args, size)
    return worth_of_both(kind, first, reckoned(tree[2], args, size), size)


def worth(tree, args, *, size):
    """Tell what a tree is worth, with args of a size."""
    need_tree(tree)
    need_size(size)
    need_args(args, size)
    return reckoned(tree, args, size)


def walked(tree):
    """Tell the parts of what is known to be a tree."""
    parts = [tree]
    for within in trees_within(tree):
        parts.extend(walked(within))
    return parts


def parts_of(tree):
    """Tell all parts of a tree, itself first, then those of its trees in order."""
    need_tree(tree)
    return walked(tree)
