"""Pens, and the commands that move them."""

from penhome.errors import NoCommand, NoPen

HOME = (0, 0, 1, 0, 0, 0)

# Which numbers a command takes decides alone whether a tuple is a command, so
# the bounds of each number stand here, and no function repeats them.
BOUNDS = {
    "go": ((-9, 9),),
    "turn": ((1, 3),),
    "mirror": (),
    "scale": ((-3, 3),),
    "aim": ((-9, 9), (-9, 9)),
    "place": ((-9, 9), (-9, 9)),
    "mark": (),
    "return": (),
    "exchange": (),
}


def is_integer(thing):
    """Tell whether a value is an int that is not a bool."""
    return isinstance(thing, int) and not isinstance(thing, bool)


def is_pen(thing):
    """Tell whether a value is a tuple of six integers."""
    return isinstance(thing, tuple) and len(thing) == 6 and all([is_integer(number) for number in thing])


def is_within(thing, bounds):
    """Tell whether a value is an integer from the first bound to the second."""
    low, high = bounds
    return is_integer(thing) and low <= thing <= high


def is_bit(thing):
    """Tell whether a value is the integer 0 or 1."""
    return is_within(thing, (0, 1))


def is_command(thing):
    """Tell whether a value is one of the nine commands, with its numbers."""
    if not isinstance(thing, tuple) or len(thing) == 0:
        return False
    word, *numbers = thing
    # A list or a dict cannot be looked up, so the word is asked for its kind first.
    if not isinstance(word, str) or word not in BOUNDS:
        return False
    bounds = BOUNDS[word]
    if len(numbers) != len(bounds):
        return False
    return all([is_within(number, pair) for number, pair in zip(numbers, bounds)])


def turned(u, v, times):
    """Return the heading (u, v) after so many quarter turns."""
    for _ in range(times):
        u, v = -v, u
    return u, v


def moved(pen, command):
    """Return the pen behind the command, or raise NoPen or NoCommand."""
    if not is_pen(pen):
        raise NoPen()
    if not is_command(command):
        raise NoCommand()
    x, y, u, v, p, q = pen
    word = command[0]
    if word == "go":
        return x + command[1] * u, y + command[1] * v, u, v, p, q
    if word == "turn":
        return x, y, *turned(u, v, command[1]), p, q
    if word == "mirror":
        return x, y, u, -v, p, q
    if word == "scale":
        return x, y, command[1] * u, command[1] * v, p, q
    if word == "aim":
        return x, y, command[1], command[2], p, q
    if word == "place":
        return command[1], command[2], u, v, p, q
    if word == "mark":
        return x, y, u, v, x, y
    if word == "return":
        return p, q, u, v, p, q
    return p, q, u, v, x, y
