"""The machine: what its code is, and what it does."""

from piecelay.checks import is_whole, need_args, need_size
from piecelay.errors import Fault, Late, NoCode, NoSteps
from piecelay.trees import worth_of_both

MOST_CELLS = 1000
MOST_CELL = 99
MOST_STEPS = 100000
MOST_PILE = 64
MOST_KEPT = 16

# Names, and how many cells stand behind; the order matters, as a cell tells its instruction by the place here.
INSTRUCTIONS = (
    ("end", 0),
    ("put", 1),
    ("far", 2),
    ("load", 1),
    ("add", 0),
    ("sub", 0),
    ("mul", 0),
    ("less", 0),
    ("skip", 1),
    ("jump", 2),
    ("zero", 1),
    ("none", 2),
    ("more", 1),
    ("twice", 0),
    ("about", 0),
    ("call", 2),
    ("back", 0),
)

MOST_TOLD = {"load": 3, "skip": 9, "zero": 9}
WAYS = ("skip", "jump", "zero", "none", "call", "back")


def is_code(thing):
    """Tell whether it is code."""
    if not isinstance(thing, list) or not 1 <= len(thing) <= MOST_CELLS:
        return False
    return all([is_whole(cell, 0, MOST_CELL) for cell in thing])


def need_code(code):
    """Refuse what is no code."""
    if not is_code(code):
        raise NoCode("code is a list of 1 to 1000 whole numbers from 0 to 99")


def instruction_at(cells, place):
    """Tell the name of the instruction at a place and the cells behind it, as a tuple."""
    if place >= len(cells) or cells[place] >= len(INSTRUCTIONS):
        raise Fault(place)
    name, many = INSTRUCTIONS[cells[place]]
    behind = tuple(cells[place + 1:place + 1 + many])
    if len(behind) < many:
        raise Fault(place)
    return name, behind


def number_told(behind):
    """Tell the number that the cells behind an instruction are together, 0 where there are none."""
    number = 0
    for cell in reversed(behind):
        number = number * 100 + cell
    return number


class Machine:
    """A machine at the first cell of its code, with a pile that may have numbers already."""

    def __init__(self, cells, given, size, pile):
        self.cells = cells
        self.given = given
        self.size = size
        self.pile = list(pile)
        self.place = 0
        self.kept = []
        self.ended = False

    def take(self):
        """Take the uppermost number."""
        if not self.pile:
            raise Fault(self.place)
        return self.pile.pop()

    def push(self, number):
        """Put the rest of a number on the pile."""
        if len(self.pile) == MOST_PILE:
            raise Fault(self.place)
        self.pile.append(number % self.size)

    def step(self):
        """Do the instruction at the place, or raise Fault."""
        # The place moves last, as a fault on the way tells the instruction's own place.
        name, behind = instruction_at(self.cells, self.place)
        number = number_told(behind)
        if number > MOST_TOLD.get(name, number):
            raise Fault(self.place)
        onward = self.place + 1 + len(behind)
        if name in WAYS:
            onward = self.way(name, number, onward)
        elif name == "end":
            self.finish()
        else:
            self.change(name, number)
        self.place = onward

    def way(self, name, number, onward):
        """Do an instruction that may go on elsewhere, and tell the place to go on at."""
        if name in ("skip", "jump"):
            return onward + number
        if name in ("zero", "none"):
            return onward + number if self.take() == 0 else onward
        if name == "call":
            if len(self.kept) == MOST_KEPT:
                raise Fault(self.place)
            self.kept.append(onward)
            return number
        if not self.kept:
            raise Fault(self.place)
        return self.kept.pop()

    def finish(self):
        """End all, with the one number on the pile."""
        if len(self.pile) != 1:
            raise Fault(self.place)
        self.ended = True

    def change(self, name, number):
        """Do an instruction that changes nothing but the pile."""
        if name in ("put", "far"):
            self.push(number)
            return
        if name == "load":
            self.push(self.given[number])
            return
        upper = self.take()
        if name == "more":
            self.push(upper + number)
        elif name == "twice":
            self.push(upper)
            self.push(upper)
        elif name == "about":
            lower = self.take()
            self.push(upper)
            self.push(lower)
        else:
            self.push(worth_of_both(name, self.take(), upper, self.size))


def started(code, args, size, steps):
    """Tell a machine for the code, or refuse what it can not be made of."""
    need_code(code)
    need_size(size)
    need_args(args, size)
    if not is_whole(steps, 1, MOST_STEPS):
        raise NoSteps("steps are a whole number from 1 to 100000")
    return Machine(code, args, size, [])


def run(code, args, *, size, steps=1000):
    """Tell the number with which the code ends."""
    machine = started(code, args, size, steps)
    for done in range(steps):
        machine.step()
        if machine.ended:
            return machine.pile[0]
    raise Late("the code has not ended within its steps")


def trace(code, args, *, size, steps=1000):
    """Tell the place and the pile ahead of each step that is done."""
    machine = started(code, args, size, steps)
    rows = []
    while len(rows) < steps and not machine.ended:
        row = (machine.place, tuple(machine.pile))
        try:
            machine.step()
        except Fault:
            return rows
        rows.append(row)
    return rows


def listed(code):
    """Tell the code instruction by instruction, from the first cell to the last."""
    need_code(code)
    rows = []
    place = 0
    while place < len(code):
        name, behind = instruction_at(code, place)
        rows.append((place, name, behind))
        place += 1 + len(behind)
    return rows
