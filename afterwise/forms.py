"""The forms that arguments have, whatever they stand for."""


def is_integer(thing):
    """Whether a thing is an integer; True and False are none."""
    return isinstance(thing, int) and not isinstance(thing, bool)


def is_tuple(thing):
    """Whether a thing is a tuple, or a list in the place of one."""
    return isinstance(thing, (list, tuple))


def is_below(thing, count):
    """Whether a thing is one of the numbers 0, 1, .. below the count."""
    return is_integer(thing) and 0 <= thing < count


def is_tuple_of(thing, count):
    """Whether a thing is a tuple of as many things."""
    return is_tuple(thing) and len(thing) == count


def are_integers(thing, count):
    """Whether a thing is a tuple of as many integers."""
    # One comprehension instead of a call for each: tables have millions of prices.
    return is_tuple_of(thing, count) and not [
        item for item in thing if not isinstance(item, int) or isinstance(item, bool)
    ]


def as_tuples(thing):
    """The thing with a tuple in the place of each list, at any depth."""
    if not is_tuple(thing):
        return thing
    return tuple([as_tuples(item) for item in thing])
