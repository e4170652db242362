"""Programs and terms written as texts."""

from beatflows.terms import FORMS, SLOTS_OF_TERMS


def written_node(node):
    """The rows of a node."""
    name, ins, outs, inner, items = node
    rows = [f"node {name}"]
    rows.extend([f"in {_written_in(flow)}" for flow in ins])
    rows.extend([f"out {_written_flow(flow)}" for flow in outs])
    rows.extend([f"flow {_written_flow(flow)}" for flow in inner])
    for item in items:
        if item[0] == "let":
            rows.append(_written_let(item))
        else:
            rows.extend(_written_block(item[1]))
    return rows


def written_right(right):
    """A right side, as one row."""
    words = [right[0]]
    for slot, held in zip(FORMS[right[0]], right[1:]):
        if slot == "term":
            words.append(written_right(held))
        elif slot == "parts":
            words.extend([written_right(term) for term in held])
        elif slot in SLOTS_OF_TERMS:
            words.append(_bracketed([written_right(term) for term in held]))
        elif slot == "kind":
            words.append(_written_kind(held))
        elif slot == "worth":
            words.append(written_worth(held))
        else:
            words.append("-" if held is None else str(held))
    return _bracketed(words)


def written_worth(worth):
    if isinstance(worth, tuple):
        return ",".join([str(one) for one in worth])
    return str(worth)


def _bracketed(words):
    return "(" + " ".join(words) + ")"


def _written_in(flow):
    name, kind, clock = flow
    return f"{name} {_written_kind(kind)} {_written_clock(clock)}"


def _written_flow(flow):
    first = "-" if flow[3] is None else written_worth(flow[3])
    return f"{_written_in(flow[:3])} {first}"


def _written_kind(kind):
    return f"{kind[0]}x{kind[1]}" if isinstance(kind, tuple) else str(kind)


def _written_clock(clock):
    if clock == ():
        return "-"
    return ",".join([f"{name}:{truth}" for name, truth in clock])


def _written_let(let):
    names = " ".join(let[1])
    return f"let {names} = {written_right(let[2])}"


def _written_block(states):
    rows = ["states"]
    for name, lets, strong, weak in states:
        rows.append(f"state {name}")
        rows.extend([_written_let(let) for let in lets])
        rows.extend([_written_way("strong", way) for way in strong])
        rows.extend([_written_way("weak", way) for way in weak])
    rows.append("end")
    return rows


def _written_way(word, way):
    condition, goal, anew = way
    entered = "now" if anew == 1 else "on"
    return f"{word} {written_right(condition)} {goal} {entered}"
