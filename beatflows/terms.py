"""Terms, right sides and nodes: which things are any, and what is told of them."""

from beatflows.errors import NoNames, NoNode, NoTerm
from beatflows.kinds import is_clock, is_kind, is_name, is_truth, is_whole, is_width, is_worth

# For each word that begins a right side: what stands behind it, slot by slot.
FORMS = {
    "lit": ("kind", "worth"),
    "name": ("name",),
    "last": ("name",),
    "first": ("term", "term"),
    "not": ("term",),
    "and": ("term", "term"),
    "or": ("term", "term"),
    "xor": ("term", "term"),
    "add": ("term", "term"),
    "sub": ("term", "term"),
    "less": ("term", "term"),
    "same": ("term", "term"),
    "wide": ("width", "term"),
    "bit": ("bit", "term"),
    "pick": ("term", "term", "term"),
    "when": ("term", "name", "truth"),
    "merge": ("name", "term", "term"),
    "row": ("parts",),
    "at": ("place", "term"),
    "call": ("node", "args", "every"),
    "map": ("node", "rows", "every"),
    "fold": ("node", "term", "rows", "every"),
    "pairs": ("node", "term", "every"),
}

# The words whose right sides are no terms, and so stand in no term.
CALLS = ("call", "map", "fold", "pairs")

# The slots that hold a tuple of terms: the fewest and the most of them.
SLOTS_OF_TERMS = {"parts": (2, 4), "args": (0, 6), "rows": (1, 4)}


def is_term(thing):
    return _are_terms([thing])


def is_right(thing):
    return _is_formed(thing) and _are_terms(terms_within(thing))


def parts_of(right):
    _need_right(right)
    return _parts(right)


def size_of(right):
    _need_right(right)
    many = len(_parts(right))
    if is_call(right):
        return many + 1
    return many


def names_in(right):
    _need_right(right)
    names = []
    for part in _parts(right):
        if part[0] == "name" or part[0] == "merge":
            names.append(part[1])
        elif part[0] == "when":
            names.append(part[2])
    if is_call(right) and right[-1] is not None:
        names.append(right[-1])
    return _each_once(names)


def lasts_in(right):
    _need_right(right)
    return _each_once([part[1] for part in _parts(right) if part[0] == "last"])


def firsts_in(right):
    _need_right(right)
    return len([part for part in _parts(right) if part[0] == "first"])


def renamed(right, names, *, nodes=None):
    _need_right(right)
    if not _is_dict_of(names, is_name):
        raise NoNames(names)
    if nodes is not None and not _is_dict_of(nodes, is_node_name):
        raise NoNames(nodes)
    return _called_otherwise(right, names, {} if nodes is None else nodes)


def is_node_name(thing):
    """Tell whether it is what a node may be called: a name, or two with a point between."""
    if not isinstance(thing, str):
        return False
    names = thing.split(".")
    return len(names) <= 2 and all([is_name(name) for name in names])


def is_node(thing):
    if not isinstance(thing, tuple) or len(thing) != 5:
        return False
    name, ins, outs, inner, lets = thing
    return (
        is_node_name(name)
        and _is_tuple_of(ins, is_in, 0, None)
        and _is_tuple_of(outs, is_flow, 1, None)
        and _is_tuple_of(inner, is_flow, 0, None)
        and _is_tuple_of(lets, _is_let_or_block, 1, None)
    )


def lets_of(node):
    _need_node(node)
    told = []
    block = -1
    for item in node[4]:
        if item[0] == "let":
            told.append((len(told), -1, -1, item[1], item[2]))
            continue
        block += 1
        for number, state in enumerate(item[1]):
            for let in state[1]:
                told.append((len(told), block, number, let[1], let[2]))
    return told


def blocks_of(node):
    _need_node(node)
    return [item[1] for item in node[4] if item[0] == "states"]


def flows_of(node):
    _need_node(node)
    flows = {}
    for name, kind, clock in node[1]:
        flows.setdefault(name, (kind, clock, None))
    for name, kind, clock, first in node[2] + node[3]:
        flows.setdefault(name, (kind, clock, first))
    return flows


def _need_right(thing):
    if not is_right(thing):
        raise NoTerm(thing)


def _need_node(thing):
    if not is_node(thing):
        raise NoNode(thing)


def is_call(right):
    """Tell of a right side whether it is no term: a call or a loop."""
    return right[0] in CALLS


def _are_terms(things):
    waiting = list(things)
    while waiting:
        thing = waiting.pop()
        if not _is_formed(thing) or is_call(thing):
            return False
        waiting.extend(terms_within(thing))
    return True


def _is_formed(thing):
    """Tell whether it is a right side, but for the terms straight within it."""
    if not isinstance(thing, tuple) or len(thing) == 0:
        return False
    word = thing[0]
    if not isinstance(word, str) or word not in FORMS:
        return False
    slots = FORMS[word]
    if len(thing) != len(slots) + 1:
        return False
    if not all([_fits(slot, held) for slot, held in zip(slots, thing[1:])]):
        return False
    # A worth hangs on the kind beside it, so no slot can be asked for it alone.
    return word != "lit" or is_worth(thing[2], thing[1])


def _fits(slot, thing):
    if slot in SLOTS_OF_TERMS:
        fewest, most = SLOTS_OF_TERMS[slot]
        return isinstance(thing, tuple) and fewest <= len(thing) <= most
    if slot == "kind":
        return is_kind(thing)
    if slot == "name":
        return is_name(thing)
    if slot == "node":
        return is_node_name(thing)
    if slot == "every":
        return thing is None or is_name(thing)
    if slot == "width":
        return is_width(thing)
    if slot == "truth":
        return is_truth(thing)
    if slot == "bit":
        return is_whole(thing, 0, 7)
    if slot == "place":
        return is_whole(thing, 0, 3)
    # What is left, a term or a worth, is looked at by whoever asks.
    return True


def terms_within(right):
    """The terms that stand straight in a right side, as they stand; a fold's start is the first."""
    terms = []
    for slot, held in zip(FORMS[right[0]], right[1:]):
        if slot == "term":
            terms.append(held)
        elif slot in SLOTS_OF_TERMS:
            terms.extend(held)
    return terms


def name_beside(term):
    """The flow's name that stands straight in a term, None where none does."""
    for slot, held in zip(FORMS[term[0]], term[1:]):
        if slot == "name":
            return held
    return None


def _parts(right):
    # The next part is popped from the end, so what is put there goes backwards.
    waiting = terms_within(right)[::-1] if is_call(right) else [right]
    parts = []
    while waiting:
        part = waiting.pop()
        parts.append(part)
        waiting.extend(terms_within(part)[::-1])
    return parts


def _each_once(names):
    return list({name: True for name in names})


def _is_dict_of(thing, is_good):
    if not isinstance(thing, dict):
        return False
    return all([is_good(key) and is_good(thing[key]) for key in thing])


def _called_otherwise(right, names, nodes):
    told = [right[0]]
    for slot, held in zip(FORMS[right[0]], right[1:]):
        told.append(_held_otherwise(slot, held, names, nodes))
    return tuple(told)


def _held_otherwise(slot, held, names, nodes):
    if slot == "term":
        return _called_otherwise(held, names, nodes)
    if slot in SLOTS_OF_TERMS:
        return tuple([_called_otherwise(term, names, nodes) for term in held])
    if slot == "name" or slot == "every":
        return names.get(held, held)
    if slot == "node":
        return nodes.get(held, held)
    return held


def _is_tuple_of(thing, is_good, fewest, most):
    """Tell whether it is a tuple of so many good things; most may be None, for no end."""
    if not isinstance(thing, tuple) or len(thing) < fewest:
        return False
    if most is not None and len(thing) > most:
        return False
    return all([is_good(one) for one in thing])


def is_in(thing):
    if not isinstance(thing, tuple) or len(thing) != 3:
        return False
    return is_name(thing[0]) and is_kind(thing[1]) and is_clock(thing[2])


def is_flow(thing):
    if not isinstance(thing, tuple) or len(thing) != 4 or not is_in(thing[:3]):
        return False
    return thing[3] is None or is_worth(thing[3], thing[1])


def is_let(thing):
    if not isinstance(thing, tuple) or len(thing) != 3 or thing[0] != "let":
        return False
    return _is_tuple_of(thing[1], is_name, 1, 4) and is_right(thing[2])


def _is_block(thing):
    if not isinstance(thing, tuple) or len(thing) != 2 or thing[0] != "states":
        return False
    return _is_tuple_of(thing[1], _is_state, 1, 4)


def _is_let_or_block(thing):
    return is_let(thing) or _is_block(thing)


def _is_state(thing):
    if not isinstance(thing, tuple) or len(thing) != 4:
        return False
    name, lets, strong, weak = thing
    if not is_name(name) or not _is_tuple_of(lets, is_let, 1, None):
        return False
    return _is_tuple_of(strong, is_way, 0, 4) and _is_tuple_of(weak, is_way, 0, 4)


def is_way(thing):
    if not isinstance(thing, tuple) or len(thing) != 3:
        return False
    return is_term(thing[0]) and is_name(thing[1]) and is_truth(thing[2])
