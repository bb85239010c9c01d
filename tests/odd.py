"""Things of any kind, to hand in where a truth or a refusal is told of anything."""


class Sour:
    """Nothing may be asked of it: whoever compares, counts, walks or weighs it fails."""

    __hash__ = None

    def refuse(self, *others):
        raise RuntimeError("asked what it does not answer")

    __eq__ = __ne__ = __lt__ = __le__ = __gt__ = __ge__ = refuse
    __len__ = __iter__ = __bool__ = __getitem__ = __contains__ = refuse
    __abs__ = __int__ = __index__ = __add__ = __sub__ = __str__ = refuse


def nested(wrap, inner, times=5000):
    thing = inner
    for _ in range(times):
        thing = wrap(thing)
    return thing


def round_list():
    ring = []
    ring.append(ring)
    return ring


def round_tuple():
    ring = []
    ring.append((ring, ring))
    return ring[0]


def deep_things():
    nothing = ("nothing",)
    return [
        nested(lambda x: [x], []),
        nested(lambda x: (x,), ()),
        nested(lambda x: (x, x), None),
        nested(lambda x: ("of", 0, x), None),
        nested(lambda x: [x, x], None),
        nested(lambda x: {"x": x}, None),
        nested(lambda x: ("list", x, 3), nothing),
        nested(lambda x: ("list", x, 250), nothing, times=20000),
        nested(lambda x: ("pair", x, x), nothing),
        nested(lambda x: ("pair", nothing, x), nothing),
        nested(lambda x: ("choice", (x,)), nothing),
        nested(lambda x: ("choice", (x,) * 9), nothing),
        nested(lambda x: [("left", x)], [("end",)]),
        nested(lambda x: ("left", x, None), "hello"),
        round_list(),
        round_tuple(),
    ]


def plain_things():
    return [
        False, 1.0, -1.5, float("nan"), float("inf"), 2j,
        10 ** 100, -(10 ** 100), 10 ** 5000,
        "\u00e9", "\ud800", "\x00", "\x7f", "\u0661",
        b"", b"nothing", bytearray(b"x"), range(3), iter([1]), {1, 2}, frozenset(),
        {}, {"nothing": 1}, {0: "nothing"}, object(), object, int, len,
        ValueError("x"), Ellipsis, NotImplemented, lambda x: x, slice(1, 2),
        Sour(), [Sour()], (Sour(),), (Sour(), Sour()), (Sour(), Sour(), Sour()),
        [(Sour(), Sour())], [("left", Sour())], [("left", [Sour()])],
        [("left", [(Sour(), Sour(), Sour())])],
    ]


def odd_things():
    """Things that are no shape, no grammar and no message, and fit next to no shape."""
    return plain_things() + deep_things()
