"""What the tests hand in and look at, file by file."""

from faultwood.errors import FaultError


class Alike:
    """A thing that says that it is alike to any other one."""

    def __eq__(self, other):
        return True

    def __hash__(self):
        return 0


def no_texts():
    """Tell things of many kinds, none of them a text; made anew each time."""
    return [
        None, True, False, 0, 1, -1, 10 ** 30,
        b"", b"1", b"1/2", b"a",
        [], [1], [1, 2], ["1/2"], ["a"], [[]],
        (), (1,), (None, None), ("1", "2"), ("1/2",), ("a",), ([], {}), (1, 2, 3),
        {}, {1: 2}, {"a": "b"}, {"1/2": None},
        set(), {1, 2}, frozenset({"a"}), range(2), iter([1, 2]),
        object(), len, int, str, tuple, ValueError("a"), lambda: 0, slice(1, 2),
    ]


def printable():
    """Tell the signs from the blank to ~, without the percent sign, and the line end."""
    signs = [chr(code) for code in range(ord(" "), ord("~") + 1)]
    signs.remove("%")
    return [*signs, "\n"]


def own_names(module):
    """Tell the names of the functions and classes that a module itself defines."""
    return {
        name for name, thing in vars(module).items()
        if callable(thing) and thing.__module__ == module.__name__
    }


def works_text(parts=("part a 1/2", "part b 1/3"), betters=(), spares=(), gates=("gate g any a b",), brings=(),
               tops=("top g",)):
    """Tell a text of works with these rows, small ones where none are told."""
    return "\n".join([*parts, *betters, *spares, *gates, *brings, *tops])


def many_parts(many):
    """Tell so many rows of parts, p0 and so on."""
    return [f"part p{i} 1/{i + 2}" for i in range(many)]


def refusal(made, *told):
    """Tell the name of the refusal with which a call ends, and its fields; None where it is let by."""
    try:
        made(*told)
    except FaultError as error:
        return (type(error).__name__, *vars(error).values())
    return None
