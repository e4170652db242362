"""Rows of words read: right sides in brackets, kinds, clocks, numbers; None stands for what is none."""

from beatflows.terms import FORMS

# No number that is handed in has more figures.
MOST_FIGURES = 30

# The slots of right sides that hold a number alone.
SLOTS_OF_NUMBERS = ("truth", "width", "bit", "place")


def words_of_row(row):
    """The words of a row, parted by blanks, right sides in brackets as what they are; None where brackets are off."""
    # The last list holds what stands in the bracket that is open, the first one what stands in none.
    open_ones = [[]]
    for word in row.split(" "):
        if word == "":
            continue
        core = word.lstrip("(")
        open_ones.extend([[] for _ in range(len(word) - len(core))])
        inner = core.rstrip(")")
        if inner:
            # A bracket within it is no sign of any name or number, and so is found where the word is read.
            open_ones[-1].append(inner)
        elif not word.startswith("()"):
            return None
        for _ in range(len(core) - len(inner)):
            closed = _closed(open_ones.pop())
            if closed is None or not open_ones:
                return None
            open_ones[-1].append(closed)
    return open_ones[0] if len(open_ones) == 1 else None


def number_of(word):
    """The whole number that is plainly written, None where it is none."""
    if not 1 <= len(word) <= MOST_FIGURES or not all(["0" <= sign <= "9" for sign in word]):
        return None
    if word[0] == "0" and len(word) > 1:
        return None
    return int(word)


def worth_of(word):
    """The worth, of rows the tuple of worths, that is plainly written."""
    numbers = [number_of(part) for part in word.split(",")]
    if None in numbers:
        return None
    return tuple(numbers) if len(numbers) > 1 else numbers[0]


def kind_of_word(word):
    """The kind that is plainly written, or what looks like one."""
    numbers = [number_of(part) for part in word.split("x")]
    return tuple(numbers) if len(numbers) > 1 else numbers[0]


def clock_of_word(word):
    """The clock that is plainly written, or what looks like one."""
    if word == "-":
        return ()
    told = []
    for condition in word.split(","):
        name, _, truth = condition.partition(":")
        told.append((name, number_of(truth)))
    return tuple(told)


def _closed(held):
    """What a bracket comes to that holds these: a right side, or a list of right sides; None where it is none."""
    if not held or not isinstance(held[0], str):
        terms = [one for one in held if isinstance(one, tuple)]
        return terms if len(terms) == len(held) else None
    if held[0] not in FORMS:
        return None
    slots = FORMS[held[0]]
    given = held[1:]
    if slots == ("parts",):
        given = [given]
    if len(given) != len(slots):
        return None
    return (held[0], *[_read_slot(slot, one) for slot, one in zip(slots, given)])


def _read_slot(slot, given):
    """What stands in a slot of a right side; whatever doesn't fit there is found when the whole is looked at."""
    if isinstance(given, list):
        return tuple(given)
    if not isinstance(given, str):
        return given
    if slot == "kind":
        return kind_of_word(given)
    if slot == "worth":
        return worth_of(given)
    if slot in SLOTS_OF_NUMBERS:
        return number_of(given)
    if slot == "every" and given == "-":
        return None
    return given
