"""Shops, which keep pieces and what was laid from them."""

from piecelay.checks import is_name
from piecelay.covers import length_of
from piecelay.errors import Broken, NoCover, NoName, NoSet, Taken
from piecelay.laying import lay
from piecelay.machine import run
from piecelay.pieces import BASIC, MOST_PIECES, failing, need_piece, need_set

TRIED_SIZE = 3


class Shop:
    """A set of pieces, and codes that were laid of trees, by names."""

    def __init__(self, some=None):
        if some is None:
            some = list(BASIC)
        need_set(some)
        self.ready = list(some)
        # By its name, the tree that was laid and its code, as tuples: so no list in here is ever handed out.
        self.orders = {}

    def has_piece(self, name):
        """Tell whether a piece has the name."""
        return is_name(name) and name in [piece[0] for piece in self.ready]

    def order(self, name):
        """Tell the tree and the code that were laid by a name."""
        if not is_name(name) or name not in self.orders:
            raise NoName("nothing was laid by this name")
        return self.orders[name]

    def put(self, piece):
        """Take a piece in that keeps its contract."""
        need_piece(piece)
        if self.has_piece(piece[0]):
            raise Taken("a piece has this name already")
        if len(self.ready) == MOST_PIECES:
            raise NoSet("a set has no more than 16 pieces")
        trial = failing(piece, size=TRIED_SIZE)
        if trial is not None:
            raise Broken(trial)
        self.ready.append(piece)

    def drop(self, name):
        """Give a piece away."""
        if not self.has_piece(name):
            raise NoName("no piece has this name")
        if len(self.ready) == 1:
            raise NoSet("a set has at least one piece")
        self.ready = [piece for piece in self.ready if piece[0] != name]

    def pieces(self):
        """Tell all pieces, as they came."""
        return list(self.ready)

    def lay(self, name, tree):
        """Lay a tree by a name, and tell its code."""
        if not is_name(name):
            raise NoName("a name is a text of 1 to 8 letters a to z")
        cells = lay(tree, self.ready)
        self.orders[name] = (tree, tuple(cells))
        return cells

    def code(self, name):
        """Tell the code that was laid by a name."""
        return list(self.order(name)[1])

    def tree(self, name):
        """Tell the tree that was laid by a name."""
        return self.order(name)[0]

    def run(self, name, args, *, size):
        """Tell the number with which the code of a name ends."""
        return run(self.code(name), args, size=size)

    def is_stale(self, name):
        """Tell whether the tree of a name would have another length now, or none."""
        tree, cells = self.order(name)
        try:
            # The end is one of the code's cells, but none of the covering's.
            return length_of(tree, self.ready) + 1 != len(cells)
        except NoCover:
            return True

    def stale(self):
        """Tell the names that are stale, rising."""
        return sorted([name for name in self.orders if self.is_stale(name)])

    def total(self):
        """Tell how many cells all codes have."""
        return sum([len(cells) for tree, cells in self.orders.values()])

    def twin(self):
        """Tell another shop that stands just so."""
        other = Shop(self.ready)
        other.orders = dict(self.orders)
        return other

    def __len__(self):
        return len(self.orders)
