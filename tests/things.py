"""Things that the tests hand in, and what they ask of what is told."""

HUNDRED_FIGURES = int("9" * 100)


def nested(kind, depth):
    """A list or tuple in another one, so many deep."""
    thing = kind()
    for _ in range(depth - 1):
        thing = kind([thing])
    return thing


# Things of every kind that "of anything" covers and that are never an
# expression, a statement, a line, a state or a part of one of them.
ODD = (
    True,
    False,
    HUNDRED_FIGURES,
    -HUNDRED_FIGURES,
    "\n",
    "Capital",
    'a"b',
    "~" * 20000,
    (True,),
    (False, True),
    (None,),
    ((), ()),
    ([],),
    ({},),
    ([], {}),
    ({}, []),
    (["number"], 1),
    ({"number": 1}, 1),
    [],
    [1, 2],
    ["number", 1],
    ["why"],
    {},
    {"number": 1},
    {1: [2, {3: None}]},
    nested(list, 30),
    nested(tuple, 30),
    tuple(range(5000)),
    list(range(5000)),
)


def is_plain(thing):
    """Whether it is of plain kinds throughout, none a kind of its own."""
    if type(thing) in (int, str, bool, type(None)):
        return True
    if type(thing) in (tuple, list):
        return all(is_plain(part) for part in thing)
    if type(thing) is dict:
        return all(is_plain(key) and is_plain(thing[key]) for key in thing)
    return False


def is_same(one, other):
    """Whether both are equal and of the same kinds throughout, so True is not 1."""
    return repr(one) == repr(other)


def with_part(thing, at, part):
    """The tuple with another part at a place."""
    return thing[:at] + (part,) + thing[at + 1:]
