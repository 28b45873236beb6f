"""Books made for tests, from a seed, and values that are no statements."""

import random

from samples import BIG, NO_COMMANDS, STRANGE

SOME_COMMANDS = [
    ("go", 1), ("go", -2), ("go", 9), ("turn", 1), ("turn", 2), ("turn", 3), ("mirror",),
    ("scale", 2), ("scale", -1), ("scale", 0), ("aim", 4, -2), ("place", -3, 7),
    ("mark",), ("return",), ("exchange",),
]

# Tuples that come close to statements. None is a statement of a book with one procedure.
NO_STATEMENTS = [thing for thing in NO_COMMANDS if not (
    isinstance(thing, tuple) and len(thing) > 0 and thing[0] in ("end", "keep", "again", "either", "call"))
] + [
    ("keep",), ("keep", [], []), ("keep", ()), ("keep", None), ("keep", {}), ("keep", "block"), ["keep", []],
    ("again",), ("again", [], []), ("again", ()), ("again", 0), ("again", [], 1), ["again", []],
    ("either",), ("either", []), ("either", [], [], []), ("either", [], ()), ("either", (), []),
    ("either", [[], []]), ("either", None, []), ["either", [], []],
    ("end",), ("end", 2), ("end", -1), ("end", True), ("end", False), ("end", None), ("end", "0"),
    ("end", 0, 0), ("end", [0]), ("end", (0,)), ("end", BIG), ["end", 0],
    ("call",), ("call", 0), ("call", 0, True), ("call", 0, True, [[], []], []), ("call", 0, True, [], []),
    ("call", 1, True, [[], []]), ("call", -1, True, [[], []]), ("call", BIG, True, [[], []]),
    ["call", 0, True, [[], []]],
    ("Keep", []), ("KEEP", []), ("repeat", []), ("",), (" end", 0), ("hold",), ("back",), ("behind", 0, True, [[], []]),
] + [
    ("call", strange, True, [[], []]) for strange in STRANGE
] + [
    ("call", 0, strange, [[], []]) for strange in [0, 1, *STRANGE] if not isinstance(strange, bool)
] + [
    ("call", 0, True, strange) for strange in [
        *STRANGE, [[]], [[], [], []], ([], []), [[], ()], [(), []], [[], None], [None, []], [[], 0]]
] + [
    ("end", strange) for strange in STRANGE
]


WORDS = ["command", "command", "keep", "either", "again", "call", "call", "end"]
RICH_WORDS = ["command", "command", "command", "keep", "either", "either", "either", "again", "call", "call", "end"]


def made_block(source, level, many, room, words):
    """Make a block; room is a list of the number of statements that the procedure may still get."""
    block = []
    for _ in range(source.choice([0, 1, 1, 2, 2, 3, 4])):
        if room[0] == 0:
            break
        room[0] -= 1
        block.append(made_statement(source, level, many, room, words))
    return block


def made_statement(source, level, many, room, words):
    word = source.choice(words)
    if word == "end":
        return ("end", source.choice([0, 1]))
    if word == "command" or level == 3:
        return source.choice(SOME_COMMANDS)
    blocks = [made_block(source, level + 1, many, room, words) for _ in range(2)]
    if word == "call":
        return ("call", source.randrange(many), source.choice([True, False]), blocks)
    if word == "either":
        return ("either", *blocks)
    # The statements of the second block are lost, which does no harm.
    return (word, blocks[0])


def made_bodies(seed):
    """Make the bodies of a book."""
    source = random.Random(seed)
    many = source.choice([1, 2, 3])
    return [made_block(source, 0, many, [12], WORDS) for _ in range(many)]


def rich_bodies(seed):
    """Make the bodies of a book whose procedures have runs, most of them more than one."""
    source = random.Random(seed)
    many = source.choice([1, 2, 2, 3])
    bodies = []
    for _ in range(many):
        either = ("either", [source.choice(SOME_COMMANDS)], [source.choice(SOME_COMMANDS)])
        body = [either, *made_block(source, 0, many, [6], RICH_WORDS)]
        if source.choice([True, False]):
            body.insert(source.randrange(len(body)), ("either", [], [source.choice(SOME_COMMANDS), ("end", 1)]))
        bodies.append(body)
    return bodies


def blocks_in(statement):
    """List the blocks of a statement."""
    if statement[0] == "call":
        return statement[3]
    return [item for item in statement if isinstance(item, list)]


def places(bodies):
    """List the procedure, the path, the statement and the list it stands in, of all statements."""
    found = []
    for procedure, body in enumerate(bodies):
        waiting = [((), body)]
        while waiting:
            ahead, block = waiting.pop()
            for at, statement in enumerate(block):
                path = ahead + (at,)
                found.append((procedure, path, statement, block))
                for number, inner in enumerate(blocks_in(statement)):
                    waiting.append((path + (number,), inner))
    return sorted(found, key=lambda place: place[:2])


def lists_in(thing):
    """List all lists in a value, itself included."""
    found = [thing] if isinstance(thing, list) else []
    if isinstance(thing, (list, tuple)):
        for item in thing:
            found += lists_in(item)
    return found
