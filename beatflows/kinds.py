"""Whole numbers, names, kinds, worths and clocks, and the ten words of reckoning."""

from beatflows.errors import NoBits, NoKind, NoNumber, NoOp, NoWidth, NoWorth, NoWorths

WORDS = ("not", "and", "or", "xor", "add", "sub", "less", "same", "wide", "bit")

WORDS_OF_ONE = ("not", "wide", "bit")


def is_whole(thing, low, high):
    return is_number(thing) and low <= thing <= high


def is_number(thing):
    """Tell whether it is a whole number: True and False are ints to Python, but none here."""
    return isinstance(thing, int) and not isinstance(thing, bool)


def is_name(thing):
    if not isinstance(thing, str) or not 1 <= len(thing) <= 8:
        return False
    return all(["a" <= sign <= "z" for sign in thing])


def is_width(thing):
    return is_whole(thing, 1, 8)


def is_truth(thing):
    return is_whole(thing, 0, 1)


def is_kind(thing):
    if not isinstance(thing, tuple):
        return is_width(thing)
    return len(thing) == 2 and is_whole(thing[0], 2, 4) and is_width(thing[1])


def is_worth(thing, kind):
    if not is_kind(kind):
        raise NoKind(kind)
    if not isinstance(kind, tuple):
        return _is_worth_of_width(thing, kind)
    many, width = kind
    if not isinstance(thing, tuple) or len(thing) != many:
        return False
    return _are_worths_of_width(thing, width)


def is_clock(thing):
    if not isinstance(thing, tuple) or len(thing) > 3:
        return False
    if not all([_is_condition(condition) for condition in thing]):
        return False
    return len({condition[0] for condition in thing}) == len(thing)


def bits_of(width, worth):
    if not is_width(width):
        raise NoWidth(width)
    if not _is_worth_of_width(worth, width):
        raise NoWorth(worth)
    return [(worth >> place) & 1 for place in range(width)]


def of_bits(bits):
    if not is_list(bits) or not 1 <= len(bits) <= 8:
        raise NoBits(bits)
    if not all([is_truth(bit) for bit in bits]):
        raise NoBits(bits)
    worth = 0
    for place, bit in enumerate(bits):
        worth += bit << place
    return worth


def reckoned(word, width, worths, *, to=1, at=0):
    if word not in WORDS:
        raise NoOp(word)
    if not is_width(width):
        raise NoWidth(width)
    wanted = 1 if word in WORDS_OF_ONE else 2
    if not is_list(worths) or len(worths) != wanted or not _are_worths_of_width(worths, width):
        raise NoWorths(worths)
    if word == "wide" and not is_width(to):
        raise NoWidth(to)
    if word == "bit" and not is_whole(at, 0, width - 1):
        raise NoNumber(at)
    if wanted == 2:
        return _reckoned_of_two(word, width, worths[0], worths[1])
    return _reckoned_of_one(word, width, worths[0], to, at)


def _reckoned_of_one(word, width, worth, to, at):
    if word == "not":
        return _greatest(width) - worth
    if word == "wide":
        return worth & _greatest(to)
    return (worth >> at) & 1


def _reckoned_of_two(word, width, one, other):
    if word == "and":
        return one & other
    if word == "or":
        return one | other
    if word == "xor":
        return one ^ other
    if word == "add":
        return (one + other) & _greatest(width)
    if word == "sub":
        return (one - other) & _greatest(width)
    if word == "less":
        return 1 if one < other else 0
    return 1 if one == other else 0


def _greatest(width):
    return (1 << width) - 1


def _is_worth_of_width(thing, width):
    return is_whole(thing, 0, _greatest(width))


def _are_worths_of_width(things, width):
    return all([_is_worth_of_width(thing, width) for thing in things])


def _is_condition(thing):
    return isinstance(thing, tuple) and len(thing) == 2 and is_name(thing[0]) and is_truth(thing[1])


def is_list(thing):
    """Tell whether it will do where a list is wanted: a tuple will, too."""
    return isinstance(thing, (list, tuple))
