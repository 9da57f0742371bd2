"""What the tests hand in and look at, file by file."""

from faultwood.errors import FaultError


class Alike:
    """A thing that says that it is alike to any other one."""

    def __eq__(self, other):
        return True

    def __hash__(self):
        return 0


def no_texts():
    """Tell things of many kinds, none of them a text; made anew each time."""
    return [
        None, True, False, 0, 1, -1, 10 ** 30,
        b"", b"1", b"1/2", b"a",
        [], [1], [1, 2], ["1/2"], ["a"], [[]],
        (), (1,), (None, None), ("1", "2"), ("1/2",), ("a",), ([], {}), (1, 2, 3),
        {}, {1: 2}, {"a": "b"}, {"1/2": None},
        set(), {1, 2}, frozenset({"a"}), range(2), iter([1, 2]),
        object(), len, int, str, tuple, ValueError("a"), lambda: 0, slice(1, 2),
    ]


def no_odds():
    """Tell things of many kinds, none of them a share from 0 to 1; made anew each time."""
    return no_texts() + [
        "", "1", "1/2", "0/1", Alike(), [1, 2], [0, 1], {1: 2}, (1, 2, 3), (1,), ((1, 2),), ((1,), 2),
        (3, 2), (2, 1), (1001, 1000), (-1, 2), (-1, 1), (10 ** 30 + 1, 10 ** 30), (-1, 10 ** 30),
        (2, 4), (0, 2), (2, 2), (10 ** 30, 10 ** 31), (0, 0), (1, 0), (0, -1), (-1, -2), (1, -2),
        (True, 1), (1, True), (False, 1), (True, 2), (None, 1), (0, None), ("0", 1), (0, "1"), (b"0", 1),
        (Alike(), 1), (0, Alike()),
    ]


def odds_wrong_for(good):
    """Tell things that are no odds of as many parts as there are of these good ones; made anew each time."""
    told = [list(good), dict(enumerate(good)), good + ((1, 2),), good[:-1], (good,), good + ((),), "", Alike()]
    if len(good) > 1:
        told.append(())
    for one in no_odds():
        told.extend([(one,) + good[1:], good[:-1] + (one,)])
        if type(one) is not tuple or one != good:
            told.append(one)
    return told


def no_numbers():
    """Tell things of many kinds, none of them a whole number from 0 on; made anew each time."""
    return [thing for thing in no_texts() if type(thing) is not int or thing < 0] + ["", "0", "1", -2, -10 ** 30, Alike()]


def printable():
    """Tell the signs from the blank to ~, without the percent sign, and the line end."""
    signs = [chr(code) for code in range(ord(" "), ord("~") + 1)]
    signs.remove("%")
    return [*signs, "\n"]


def own_names(module):
    """Tell the names of the functions and classes that a module itself defines."""
    return {
        name for name, thing in vars(module).items()
        if callable(thing) and thing.__module__ == module.__name__
    }


def works_text(parts=("part a 1/2", "part b 1/3"), betters=(), spares=(), gates=("gate g any a b",), brings=(),
               tops=("top g",)):
    """Tell a text of works with these rows, small ones where none are told."""
    return "\n".join([*parts, *betters, *spares, *gates, *brings, *tops])


def many_parts(many):
    """Tell so many rows of parts, p0 and so on."""
    return [f"part p{i} 1/{i + 2}" for i in range(many)]


def refusal(made, *told):
    """Tell the name of the refusal with which a call ends, and its fields; None where it is let by."""
    try:
        made(*told)
    except FaultError as error:
        return (type(error).__name__, *vars(error).values())
    return None


def places_in(thing):
    """Tell the places of all that stands within a tuple, each a tuple of numbers that lead there."""
    told = []
    if type(thing) is tuple:
        for at, inner in enumerate(thing):
            told.append((at,))
            told.extend((at, *place) for place in places_in(inner))
    return told


def with_place(thing, place, other):
    """Tell a tuple with another thing at a place."""
    if not place:
        return other
    at = place[0]
    return thing[:at] + (with_place(thing[at], place[1:], other),) + thing[at + 1:]
