"""Instructions: which things are any."""

from beatflows.kinds import WORDS, WORDS_OF_ONE, is_truth, is_whole, is_width

# For each word that begins an instruction: what stands behind it, slot by slot.
FORMS_OF_STEPS = {
    "put": ("registers", "worth"),
    "do": ("registers", "word", "width", "args", "more"),
    "pick": ("registers", "registers", "registers", "registers"),
    "read": ("registers", "cells"),
    "write": ("cells", "registers"),
    "in": ("registers", "ins"),
    "out": ("outs", "registers"),
    "go": ("many",),
    "skip": ("registers", "truth", "many"),
}


def are_instructions(thing, room):
    """Tell whether it is a tuple of instructions; room is a dict from the slots that number something to how many."""
    if not isinstance(thing, tuple):
        return False
    return all([_is_instruction(step, room, len(thing) - at - 1) for at, step in enumerate(thing)])


def _is_instruction(thing, room, behind):
    """Tell whether it is an instruction with so many others behind it."""
    if not isinstance(thing, tuple) or len(thing) == 0:
        return False
    word = thing[0]
    if not isinstance(word, str) or word not in FORMS_OF_STEPS:
        return False
    slots = FORMS_OF_STEPS[word]
    if len(thing) != len(slots) + 1:
        return False
    if not all([_fits_slot(slot, held, room, behind) for slot, held in zip(slots, thing[1:])]):
        return False
    return word != "do" or _is_reckoning(thing, room)


def _fits_slot(slot, thing, room, behind):
    if slot in room:
        return is_whole(thing, 0, room[slot] - 1)
    if slot == "worth":
        return is_whole(thing, 0, 255)
    if slot == "word":
        return isinstance(thing, str) and thing in WORDS
    if slot == "width":
        return is_width(thing)
    if slot == "truth":
        return is_truth(thing)
    if slot == "many":
        return is_whole(thing, 1, behind)
    # What is left, args and more, hangs on the word, and is looked at with it.
    return True


def _is_reckoning(step, room):
    _, _, word, width, args, more = step
    wanted = 1 if word in WORDS_OF_ONE else 2
    if not isinstance(args, tuple) or len(args) != wanted:
        return False
    if not all([is_whole(arg, 0, room["registers"] - 1) for arg in args]):
        return False
    if word == "wide":
        return is_width(more)
    return is_whole(more, 0, width - 1 if word == "bit" else 0)
