"""The interface that has landed: each name, in its file, with its arguments under their names."""

import importlib
import inspect
import unittest

FUNCTIONS = {
    "kinds": [
        "is_whole(thing, low, high)", "is_name(thing)", "is_kind(thing)", "is_clock(thing)", "is_worth(thing, kind)",
        "bits_of(width, worth)", "of_bits(bits)", "reckoned(word, width, worths, *, to=1, at=0)",
    ],
    "terms": [
        "is_term(thing)", "is_right(thing)", "size_of(right)", "parts_of(right)", "names_in(right)", "lasts_in(right)",
        "firsts_in(right)", "renamed(right, names, *, nodes=None)", "is_node(thing)", "lets_of(node)", "blocks_of(node)",
        "flows_of(node)",
    ],
    "causes": ["needs(program, node)", "hangs(program, node)", "ring_of(program)", "shows_ring(program, thing)"],
    "firsts": ["sets(program, node)", "bare_of(program)", "need_good(program)"],
    "runs": ["run_all(program, rows)"],
    "flats": ["need_ins(flat, ins)", "need_kept(flat, kept)"],
    "opening": ["opened(program)", "flat_ins(program, ins)", "plain_ins(program, ins)"],
    "steps": ["are_steps(thing, *, registers, cells, ins, outs)", "wanted_ins(flat, worths)"],
    "traces": [
        "origin(program, name)", "found_by(program, place, at)", "shows_reason(flat, rows, thing)", "for_whom(code, at)",
        "bits_at(net, wire)", "leads(net, wire)",
    ],
    "sayings": [
        "saying(program, out, *, most=200)", "shows_holds(program, out, thing)", "shows_falls(program, out, thing)",
        "likeness(one, other, *, most=200)", "shows_alike(one, other, thing)", "shows_parted(one, other, thing)",
        "nexts(flat, memory)", "reached(flat, *, most=200)",
    ],
    "modules": ["joined(mades, main)"],
    "edits": ["led_over(one, other)"],
    "texts": ["written(program)", "read(text)", "term_text(term)", "read_term(text)"],
}

CLASSES = {
    ("programs", "Program(nodes, *, main=None)"): [
        "nodes()", "main()", "node(name)", "kinds_at(name, at)", "clock_at(name, at)", "__eq__(other)", "__len__()",
    ],
    ("runs", "Run(program)"): [
        "beat(ins)", "kept()", "beats()", "worth(place, name)", "places()", "node_at(place)", "twin()", "fresh()", "lay(other)",
        "remembers(kept, beats)",
    ],
    ("flats", "Flat(ins, rows, cells, outs)"): [
        "ins()", "rows()", "cells()", "outs()", "width(name)", "clock(name)", "__eq__(other)", "__len__()",
    ],
    ("flats", "FlatRun(flat, *, kept=None)"): ["beat(ins)", "worth(name)", "kept()", "beats()", "twin()"],
    ("steps", "Code(flat, *, room=None)"): [
        "steps()", "registers()", "room()", "most()", "cells()", "ins()", "outs()", "flat()", "stands()", "__len__()",
    ],
    ("steps", "CodeRun(code, *, kept=None)"): ["beat(ins)", "kept()", "beats()", "taken()", "registers()", "twin()"],
    ("steps", "Turn(code, kept, ins)"): [
        "step()", "spot()", "ended()", "taken()", "registers()", "copied()", "outs()", "kept()",
    ],
    ("wires", "Net(flat)"): ["flat()", "gates()", "ins()", "cells()", "outs()", "deep()", "wires_of(name)", "__len__()"],
    ("wires", "NetRun(net, *, kept=None)"): ["beat(ins)", "kept()", "truths()", "beats()", "twin()"],
    ("device", "Device(code, *, time=64)"): [
        "give(letter)", "ticks(many=1, *, told=None)", "tick()", "beat()", "under_way()", "lacks()", "given()", "came()", "late()",
        "kept()", "twin()",
    ],
    ("traces", "Trace(program)"): ["had(name, beat)", "since(item, beat)", "reason(name, beat)"],
    ("modules", "Made(module, uses=())"): ["name()", "uses()", "nodes()", "face()", "__eq__(other)"],
    ("edits", "Live(program)"): ["edit(program, *, at, led=())", "take_back(at)", "program()", "to_come()", "taken()"],
    ("desk", "Desk()"): ["say(row)"],
}


def without_self(function):
    signature = inspect.signature(function)
    return str(signature.replace(parameters=list(signature.parameters.values())[1:]))


class Interface(unittest.TestCase):
    def test_functions_stand_in_their_files_with_their_arguments(self):
        for file, functions in FUNCTIONS.items():
            module = importlib.import_module("beatflows." + file)
            for awaited in functions:
                function = getattr(module, awaited.partition("(")[0])
                self.assertEqual(function.__module__, module.__name__)
                self.assertEqual(function.__name__ + str(inspect.signature(function)), awaited)

    def test_classes_stand_in_their_files_with_their_methods_in_their_bodies(self):
        for (file, awaited), methods in CLASSES.items():
            module = importlib.import_module("beatflows." + file)
            made = getattr(module, awaited.partition("(")[0])
            self.assertEqual(made.__module__, module.__name__)
            self.assertEqual(made.__name__ + without_self(made.__init__), awaited)
            for method in methods:
                name = method.partition("(")[0]
                self.assertIn(name, vars(made), awaited)
                self.assertEqual(name + without_self(vars(made)[name]), method)


if __name__ == "__main__":
    unittest.main()
