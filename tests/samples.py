"""Values that several tests use."""

from itertools import product

BIG = 1234567890123456789012345678901234567890
OTHER_BIG = -9876543210987654321098765432109876543210

PENS = [
    (0, 0, 1, 0, 0, 0),
    (0, 0, 0, 0, 0, 0),
    (1, 2, 3, 4, 5, 6),
    (-1, -2, -3, -4, -5, -6),
    (7, 0, -2, 0, 0, 11),
    (0, -7, 0, 5, -13, 0),
    (BIG, OTHER_BIG, BIG + 1, OTHER_BIG - 2, 3 - BIG, 4 - OTHER_BIG),
    (-BIG, 0, OTHER_BIG, 1, 0, BIG),
]

STRANGE = [True, False, None, "", "1", "word", [], [1], (), (1,), (1, 2), {}, {1: 2}]

NO_PENS = [
    None, True, 0, "", "000000", [], (), {}, {0: 1},
    [0, 0, 1, 0, 0, 0],
    (0,), (0, 0, 1, 0, 0), (0, 0, 1, 0, 0, 0, 0), ((0, 0, 1, 0, 0, 0),),
] + [
    (1, 2, 3, 4, 5, 6)[:at] + (strange,) + (1, 2, 3, 4, 5, 6)[at + 1:]
    for at in range(6) for strange in STRANGE
]

# The lowest and the highest value of each number of each command.
LIMITS = [
    ("go", [(-9, 9)]),
    ("turn", [(1, 3)]),
    ("mirror", []),
    ("scale", [(-3, 3)]),
    ("aim", [(-9, 9), (-9, 9)]),
    ("place", [(-9, 9), (-9, 9)]),
    ("mark", []),
    ("return", []),
    ("exchange", []),
]

COMMANDS = [
    (word, *numbers)
    for word, limits in LIMITS
    for numbers in product(*[range(low, high + 1) for low, high in limits])
]


def replaced(command, at, thing):
    return command[:at] + (thing,) + command[at + 1:]


def one_wrong_number(word, limits):
    """List the command with one wrong number, at each place in turn."""
    good = (word, *[high for low, high in limits])
    found = []
    for at, (low, high) in enumerate(limits, 1):
        for wrong in [low - 1, high + 1, low - 1000, high + 1000, -BIG, BIG, *STRANGE]:
            found.append(replaced(good, at, wrong))
    return found


def wrong_shapes(word, limits):
    """List what is close to the command, but has another form."""
    good = (word, *[high for low, high in limits])
    found = [list(good), good + (1,), good + (0, 0), good + (None,), good[1:], (good,), (1, *good), word]
    found += [good[:size] for size in range(len(good))]
    found += [replaced(good, 0, other) for other in [*STRANGE, word.upper(), word + " ", 0, 1]]
    return found


NO_COMMANDS = [
    None, True, 0, 1, "", "mark", [], ["mark"], {}, {"mark": 1},
    (), ((),), (None,), (True,), (1,), ([],), ({},), (("mark",),),
    ("jump",), ("jump", 1), ("jump", 1, 2), ("",), ("Mark",), ("mark ",), ("go 1",),
    ("end", 0), ("end", 1), ("keep", []), ("again", []), ("either", [], []),
    ("call", 0, True, [[], []]),
] + [
    wrong for word, limits in LIMITS for wrong in one_wrong_number(word, limits) + wrong_shapes(word, limits)
]
