"""What several files ask of the things that are handed in."""

from piecelay.errors import NoArgs, NoSize

MOST_SIZE = 10000
MANY_ARGS = 4
LONGEST_NAME = 8


def is_whole(thing, low, high):
    """Tell whether it is a whole number from low to high."""
    # Python holds True and False for whole numbers too, the document does not.
    return isinstance(thing, int) and not isinstance(thing, bool) and low <= thing <= high


def is_tagged(thing):
    """Tell whether it is a tuple that begins with a text."""
    return isinstance(thing, tuple) and len(thing) > 0 and isinstance(thing[0], str)


def is_name(thing):
    """Tell whether it is a text of 1 to 8 letters a to z."""
    if not isinstance(thing, str) or not 1 <= len(thing) <= LONGEST_NAME:
        return False
    return all(["a" <= sign <= "z" for sign in thing])


def need_size(size, most=MOST_SIZE):
    """Refuse what is no size up to the most."""
    if not is_whole(size, 2, most):
        raise NoSize(f"a size is a whole number from 2 to {most}")


def need_args(args, size):
    """Refuse what is no tuple of four numbers of the size."""
    if not isinstance(args, tuple) or len(args) != MANY_ARGS:
        raise NoArgs("args are a tuple of four numbers")
    if not all([is_whole(number, 0, size - 1) for number in args]):
        raise NoArgs(f"each of the args is a whole number from 0 to {size - 1}")
