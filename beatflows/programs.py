"""Programs: nodes that fit together, one of them the main one."""

from beatflows.errors import NoNode, NoNodes, NoProgram, NotThere
from beatflows.judging import judged_node
from beatflows.kinds import is_list, is_whole
from beatflows.terms import is_node


class Program:
    """A program of nodes, each judged when it is made; it never changes."""

    def __init__(self, nodes, *, main=None):
        if not is_list(nodes) or not 1 <= len(nodes) <= 10:
            raise NoNodes(nodes)
        for node in nodes:
            if not is_node(node):
                raise NoNode(node)
        self._nodes = tuple(nodes)
        self._main = self._nodes[-1][0] if main is None else main
        if not _is_one_of(self._main, [node[0] for node in nodes]):
            raise NotThere(main)
        self._named = {}
        self._judged = {}
        self._made = {}
        for node in self._nodes:
            self._judged[node[0]] = judged_node(node, self._named, self._main)
            self._named[node[0]] = node

    def __eq__(self, other):
        return isinstance(other, Program) and self._nodes == other._nodes and self._main == other._main

    def __len__(self):
        return len(self._nodes)

    def nodes(self):
        return self._nodes

    def main(self):
        return self._main

    def node(self, name):
        self._need_node(name)
        return self._named[name]

    def kinds_at(self, name, at):
        kinds, _ = self._judged_at(name, at)
        return list(kinds)

    def clock_at(self, name, at):
        _, clock = self._judged_at(name, at)
        return clock

    def made(self, word):
        """What was made of it once and held under this word, None where nothing was."""
        return self._made.get(word)

    def hold(self, word, thing):
        """Hold what was made of it: neither ever changes, so it need not be made again."""
        self._made[word] = thing

    def _need_node(self, name):
        if not _is_one_of(name, self._named):
            raise NotThere(name)

    def _judged_at(self, name, at):
        self._need_node(name)
        told = self._judged[name]
        if not is_whole(at, 0, len(told) - 1):
            raise NotThere(at)
        return told[at]


def need_program(thing):
    if not isinstance(thing, Program):
        raise NoProgram(thing)


def _is_one_of(thing, names):
    # Any thing may be asked for, and not all can be looked up.
    return isinstance(thing, str) and thing in names
