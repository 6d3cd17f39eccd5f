"""Values that several tests use: the document's examples and values of all kinds."""

from clearsheets.clerks import Clerk
from clearsheets.desks import Desk
from clearsheets.errors import BadRule, ClearError, Full, NoGroup

W = (2, "any", (((), (0, 1)), ((0,), (1,))))
R = (3, ((0, 1), (0, 2)), ((0,), (1, 2)))
V = (2, "any", (((0, 1), (0, 1)), ((0,), (0, 1))))
B = (1, "any", (((1, ((),)), (1, ((0,),))), ((1, ((0,),)),)))
T = (1, "any", 2, (("lighter", (0,), 0, 1), ("lighter", (0,), 1, 0)))
H = (3, "any", (((), (0, 1), (0, 2), (1, 2)), ((0,), (0, 1, 2), (1,), (2,))))


def nested(depth):
    """Return tuples in one another, that many deep."""
    value = ()
    for _ in range(depth - 1):
        value = (value,)
    return value


def plain_values():
    """Return new values of all kinds that any value may be, without objects of the package."""
    return [
        None, True, False,
        0, 1, 2, 3, 5, 6, -1, -2, 400, 401, 10 ** 60 - 1, -(10 ** 60 - 1),
        "", " ", "0", "01", "any", "odd", "way", "abc", "~\n", "x" * 3000,
        (), (0,), (1, 0), ((),), ((), ()), (None,), (True,), ("any",), nested(12), (0,) * 2000,
        [], [0], [[]], [0, 1], [()], [2, "any", [[()], [()]]], [0] * 2000,
        {}, {0: 1}, {"any": ()}, {(): [], (0,): {}}, {0: 0, 1: 1, 2: 2},
        W, R, V, H, list(W), W[2], W[2][0], (3, "any", 2, ()), B, T, ((0,), (("lighter", 0, 1), ("lighter", 1, 0))),
        {"deep": [({"deeper": [(None, [True])]},)]},
    ]


def any_values():
    """Return new values of all kinds, objects of the package among them."""
    held = ClearError("held")
    desk = Desk(R, "any")
    objects = [held, BadRule(0, "group"), Full(), NoGroup((0,)), (held,), [held], {"held": held},
               desk, Clerk(desk), (desk,), [desk], (desk, "any"), {"desk": desk}]
    return plain_values() + objects


THINGS = (None, True, False, 0, 1, 2, 3, 4, 5, 10, -1, 10 ** 59, "", "any", "odd", "alike", "lighter", "0", (), (0,),
          (1, 0), (True,), ((),), (0, 1), [], [0], {}, {0: 1})


def otherwise(value):
    """Yield the value with one thing otherwise at any depth: exchanged, left out, twice, or in a list."""
    yield from THINGS
    if not isinstance(value, tuple):
        return
    yield list(value)
    yield value + (None,)
    for at, item in enumerate(value):
        ahead, behind = value[:at], value[at + 1:]
        yield ahead + behind
        yield ahead + (item,) + value[at:]
        yield behind + ahead + (item,)
        for other in otherwise(item):
            yield ahead + (other,) + behind
