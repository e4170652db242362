"""Programs read row by row: which rows may stand where, and the nodes that they make."""

from beatflows.kinds import is_name
from beatflows.terms import is_flow, is_in, is_let, is_node_name, is_way
from beatflows.words import clock_of_word, kind_of_word, words_of_row, worth_of

# The most states of a block, and the most strong or weak ways of a state.
MOST_STATES = 4
MOST_WAYS = 4


class ProgramRows:
    """The rows of a program, taken one by one: the nodes that they make, and the main one's name, None until then."""

    def __init__(self):
        self.node_tuples = []
        self.main_name = None
        self._node = None

    def take(self, row):
        """Take one more row; tell whether it is right where it stands."""
        words = words_of_row(row)
        if words == []:
            return True
        if words is None or self.main_name is not None:
            return False
        if words[0] in ("node", "main"):
            return self._take_name(words)
        return self._node is not None and self._node.take(words)

    def _take_name(self, words):
        if len(words) != 2 or not is_node_name(words[1]):
            return False
        if self._node is None:
            return words[0] == "node" and self._begin(words[1])
        if not self._node.is_whole_node():
            return False
        self.node_tuples.append(self._node.made_node())
        if words[0] == "node":
            return self._begin(words[1])
        self.main_name = words[1]
        return True

    def _begin(self, name):
        self._node = NodeRows(name)
        return True


class NodeRows:
    """The rows of one node, taken one by one."""

    def __init__(self, name):
        self._name = name
        self._ins = []
        self._outs = []
        self._inner = []
        self._lets = []
        # The states of the block that is open, None where none is.
        self._block = None

    def take(self, words):
        word = words[0]
        if word in ("in", "out", "flow"):
            return self._take_flow(word, words[1:])
        if word == "let":
            return self._take_let(words)
        if word in ("strong", "weak"):
            return self._take_way(words)
        if word == "state":
            return self._take_state(words)
        if word == "states":
            return self._take_block(words)
        return words == ["end"] and self._take_end()

    def is_whole_node(self):
        """Tell whether the rows make a node, if none comes any more; no let is there ahead of all outs."""
        return self._block is None and len(self._lets) > 0

    def made_node(self):
        return self._name, tuple(self._ins), tuple(self._outs), tuple(self._inner), tuple(self._lets)

    def _take_flow(self, word, words):
        flow = _flow_of_words(words)
        good = is_in(flow) if word == "in" else is_flow(flow)
        if not good or not self._may_take_flow(word):
            return False
        if word == "in":
            self._ins.append(flow)
        elif word == "out":
            self._outs.append(flow)
        else:
            self._inner.append(flow)
        return True

    def _may_take_flow(self, word):
        if self._lets or self._block is not None:
            return False
        if word == "flow":
            # No out may come behind it, and there has to be one.
            return len(self._outs) > 0
        return not self._inner and (word == "out" or not self._outs)

    def _take_let(self, words):
        let = ("let", tuple(words[1:-2]), words[-1])
        if len(words) < 4 or words[-2] != "=" or not is_let(let):
            return False
        lets = self._lets_open()
        if lets is None:
            return False
        lets.append(let)
        return True

    def _lets_open(self):
        """The lets to which one may be added now, None where none may stand."""
        if self._block is None:
            return self._lets if self._outs else None
        if not self._block or self._block[-1].strong or self._block[-1].weak:
            return None
        return self._block[-1].lets

    def _take_block(self, words):
        if len(words) != 1 or self._block is not None or not self._outs:
            return False
        self._block = []
        return True

    def _take_state(self, words):
        if len(words) != 2 or not is_name(words[1]) or self._block is None or len(self._block) >= MOST_STATES:
            return False
        if self._block and not self._block[-1].lets:
            return False
        self._block.append(StateRows(words[1]))
        return True

    def _take_way(self, words):
        if len(words) != 4 or words[3] not in ("now", "on"):
            return False
        way = (words[1], words[2], 1 if words[3] == "now" else 0)
        if not is_way(way) or not self._block or not self._block[-1].lets:
            return False
        state = self._block[-1]
        if words[0] == "strong" and state.weak:
            return False
        ways = state.strong if words[0] == "strong" else state.weak
        if len(ways) >= MOST_WAYS:
            return False
        ways.append(way)
        return True

    def _take_end(self):
        if not self._block or not self._block[-1].lets:
            return False
        states = [(one.called, tuple(one.lets), tuple(one.strong), tuple(one.weak)) for one in self._block]
        self._lets.append(("states", tuple(states)))
        self._block = None
        return True


class StateRows:
    """The rows of one state."""

    def __init__(self, name):
        self.called = name
        self.lets = []
        self.strong = []
        self.weak = []


def _flow_of_words(words):
    """The in, or, of four words, the flow; None where the first behind it is none."""
    if len(words) not in (3, 4) or not all([isinstance(word, str) for word in words]):
        return None
    told = (words[0], kind_of_word(words[1]), clock_of_word(words[2]))
    if len(words) == 3:
        return told
    first = None if words[3] == "-" else worth_of(words[3])
    return None if first is None and words[3] != "-" else (*told, first)
