"""Modules: judged apart by the faces of those that they use, and joined to programs."""

from beatflows.causes import hangs
from beatflows.errors import NoImport, NoModules, NotThere, TooMany
from beatflows.firsts import need_good
from beatflows.kinds import is_list, is_name
from beatflows.programs import Program
from beatflows.standins import stand_in
from beatflows.terms import is_call, is_node, lets_of, renamed

# The most modules that one uses, its most nodes, those of a program, and the most Mades in a list.
MOST_USES = 4
MOST_OWN_NODES = 8
MOST_NODES = 10
MOST_MADES = 10


class Made:
    """A module, judged; it never changes."""

    def __init__(self, module, uses=()):
        if not _is_module(module):
            raise NoModules(module)
        if not _are_mades(uses):
            raise NoModules(uses)
        self._name, self._uses, nodes = module
        self._nodes = _called_in_full(self._name, nodes)
        self._faces = _faces_of_used(self._name, self._uses, {made.name(): made for made in uses})
        called = _called_of_used(self._nodes, self._faces)
        many = len(self._nodes) + len(called)
        if many > MOST_NODES:
            raise TooMany(many)
        # Of used ones the faces are all that counts.
        used = [stand_in(name, called[name]) for name in called]
        program = Program([*used, *self._nodes])
        need_good(program)
        self._face = {node[0]: (node[1], node[2], hangs(program, node[0])) for node in self._nodes}

    def __eq__(self, other):
        if not isinstance(other, Made):
            return False
        return self._told() == other._told()

    def name(self):
        return self._name

    def uses(self):
        return self._uses

    def nodes(self):
        return self._nodes

    def face(self):
        return _copied(self._face)

    def face_used(self, name):
        """The face that a module that it uses had when it was made."""
        return _copied(self._faces[name])

    def _told(self):
        return self._name, self._uses, self._nodes, self._face


def joined(mades, main):
    if not _are_mades(mades) or len(mades) == 0:
        raise NoModules(mades)
    named = {made.name(): made for made in mades}
    homes = {node[0]: made.name() for made in mades for node in made.nodes()}
    if not isinstance(main, str) or main not in homes:
        raise NotThere(main)
    for made in mades:
        _need_uses(made, named)
    nodes = []
    for name in _in_order(_used_from(homes[main], named), named):
        nodes.extend(named[name].nodes())
    return Program(nodes, main=main)


def _is_module(thing):
    if not isinstance(thing, tuple) or len(thing) != 3:
        return False
    name, uses, nodes = thing
    if not is_name(name) or not isinstance(uses, tuple) or len(uses) > MOST_USES:
        return False
    if not all([is_name(one) and one != name for one in uses]) or len({one for one in uses}) != len(uses):
        return False
    if not isinstance(nodes, tuple) or not 1 <= len(nodes) <= MOST_OWN_NODES:
        return False
    return all([is_node(node) and is_name(node[0]) for node in nodes])


def _are_mades(thing):
    """Tell whether it is a list of at most ten Mades, no two of modules of one name."""
    if not is_list(thing) or len(thing) > MOST_MADES:
        return False
    if not all([isinstance(one, Made) for one in thing]):
        return False
    return len({one.name() for one in thing}) == len(thing)


def _called_in_full(module, nodes):
    """The nodes of a module, they and those of them that they call by the module's name and their own."""
    names = {node[0]: f"{module}.{node[0]}" for node in nodes}
    told = []
    for name, ins, outs, inner, lets in nodes:
        told.append((names[name], ins, outs, inner, tuple([_item_in_full(item, names) for item in lets])))
    return tuple(told)


def _item_in_full(item, names):
    """A let or a block, with nodes called otherwise."""
    if item[0] == "let":
        return _let_in_full(item, names)
    states = []
    for name, lets, strong, weak in item[1]:
        states.append((name, tuple([_let_in_full(let, names) for let in lets]), strong, weak))
    return "states", tuple(states)


def _let_in_full(let, names):
    return let[0], let[1], renamed(let[2], {}, nodes=names)


def _faces_of_used(name, uses, named):
    told = {}
    for used in uses:
        if used not in named:
            raise NoImport(name, used)
        told[used] = named[used].face()
    return told


def _called_of_used(nodes, faces):
    """The nodes of used modules that these call, each once, as they are first called, with what their faces tell."""
    known = {}
    for used in faces:
        for name in faces[used]:
            known[name] = faces[used][name]
    told = {}
    for node in nodes:
        for _, _, _, _, right in lets_of(node):
            if is_call(right) and right[1] in known:
                told[right[1]] = known[right[1]]
    return told


def _need_uses(made, named):
    """Refuse the first module that one uses that isn't there, has another face, or uses that one itself."""
    for used in made.uses():
        if used not in named or named[used].face() != made.face_used(used):
            raise NoImport(made.name(), used)
        if made.name() in _used_from(used, named):
            raise NoImport(made.name(), used)


def _used_from(name, named):
    """A dict of True for a module and all that it uses, near and far, as far as they are there."""
    told = {name: True}
    waiting = [name]
    while waiting:
        near = waiting.pop()
        for used in named[near].uses():
            if used in named and used not in told:
                told[used] = True
                waiting.append(used)
    return told


def _in_order(names, named):
    """The modules of these names, each behind those that it uses, of those that may come next the least one first."""
    told = []
    while len(told) < len(names):
        free = [name for name in names if name not in told and all([used in told for used in named[name].uses()])]
        told.append(min(free))
    return told


def _copied(face):
    told = {}
    for name in face:
        ins, outs, hanging = face[name]
        told[name] = (ins, outs, {out: list(hanging[out]) for out in hanging})
    return told
