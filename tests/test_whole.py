"""Promise 9: whole programs run by reader, flat list, steps, wires, device, trace and desk at once, and renamed."""

import random

from beatflows.causes import hangs
from beatflows.desk import Desk
from beatflows.device import Device
from beatflows.edits import Live, led_over
from beatflows.errors import TooMany
from beatflows.flats import FlatRun
from beatflows.opening import flat_ins, opened
from beatflows.programs import Program
from beatflows.runs import Run
from beatflows.sayings import saying
from beatflows.steps import Code, CodeRun
from beatflows.terms import flows_of, renamed
from beatflows.texts import read, written
from beatflows.traces import Trace
from beatflows.wires import Net, NetRun
from tests.beside import opened_by_chance
from tests.chance import some_ins
from tests.helper import RefusalCase


def in_text(worth):
    return ",".join(str(one) for one in worth) if isinstance(worth, tuple) else str(worth)


def otherwise(name):
    """Another name, that rises where this one falls: the letters from behind, and one more."""
    return "".join(chr(ord("a") + ord("z") - ord(sign)) for sign in name) + "q"


class Renamed:
    """A program with all of its names called otherwise: nodes, flows and states."""

    def __init__(self, program):
        self.nodes = {one[0]: otherwise(one[0]) for one in program.nodes()}
        self.program = Program([self.node(one) for one in program.nodes()], main=self.nodes[program.main()])

    def node(self, one):
        names = {name: otherwise(name) for name in flows_of(one)}

        def clock(told):
            return tuple((names[name], truth) for name, truth in told)

        def let_of(told):
            return ("let", tuple(names[name] for name in told[1]), renamed(told[2], names, nodes=self.nodes))

        def ways(told):
            return tuple((renamed(condition, names), otherwise(goal), anew) for condition, goal, anew in told)

        def item(told):
            if told[0] == "let":
                return let_of(told)
            return ("states", tuple((otherwise(who), tuple(let_of(own) for own in lets), ways(strong), ways(weak)) for who, lets, strong, weak in told[1]))
        flows = [tuple((names[flow[0]], flow[1], clock(flow[2]), *flow[3:]) for flow in flows) for flows in one[1:4]]
        return (self.nodes[one[0]], *flows, tuple(item(told) for told in one[4]))


class Whole(RefusalCase):
    def test_all_at_once(self):
        for seed, program, flat in opened_by_chance(120):
            code = Code(flat)
            if code.most() > 999:
                continue
            chance = random.Random(seed)
            run, others = Run(program), [FlatRun(flat), CodeRun(code), NetRun(Net(flat))]
            kin = [Trace(program), Live(program)]
            device, desk = Device(code, time=max(code.most(), 1)), Desk()
            desk.say("program " + written(program).replace("\n", ";"))
            letters, told = [], []
            for beat in range(5):
                ins = some_ins(program, chance)
                worths = flat_ins(program, ins)
                letters.extend((name, beat, worths[name]) for name in worths)
                told.append(run.beat(ins))
                for other in others:
                    self.assertEqual(list(other.beat(worths).items()), list(told[-1].items()), seed)
                    self.assertEqual(list(other.kept().items()), list(run.kept().items()), seed)
                for other in kin:
                    self.assertEqual(list(other.beat(ins).items()), list(told[-1].items()), seed)
                    self.assertEqual(list(other.kept().items()), list(run.kept().items()), seed)
                row = " ".join(["beat", *[f"{name}={in_text(ins[name])}" for name in ins]])
                self.assertEqual(desk.say(row), " ".join(f"{name}={in_text(told[-1][name])}" for name in told[-1]) or "silent")
                for name in flows_of(program.node(program.main())):
                    worth = run.worth((), name)
                    self.assertEqual(desk.say("what " + name), "silent" if worth is None else in_text(worth))
            self.same_on_device(device, letters, told, run, chance)
            self.assertEqual(desk.say("kept"), str(len(run.kept())))

    def same_on_device(self, device, letters, told, run, chance):
        chance.shuffle(letters)
        # One tick after the other: no beat behind the fifth is to begin.
        while device.beat() < 5:
            if letters and chance.random() < 0.5:
                device.give(letters.pop())
            device.ticks()
        came = [{} for _ in range(5)]
        for name, beat, worth, _ in device.came():
            came[beat][name] = worth
        self.assertEqual([list(one.items()) for one in came], [list(one.items()) for one in told])
        self.assertEqual(list(device.kept().items()), list(run.kept().items()))

    def test_the_same_memory_goes_on_alike(self):
        for seed, program, flat in opened_by_chance(50):
            chance = random.Random(seed)
            run, net, code = Run(program), Net(flat), Code(flat)
            for _ in range(3):
                run.beat(some_ins(program, chance))
            again = Run(program)
            again.remembers(run.kept(), 7)
            others = [FlatRun(flat, kept=run.kept()), CodeRun(code, kept=run.kept()), NetRun(net, kept=run.kept())]
            for _ in range(3):
                ins = some_ins(program, chance)
                told = run.beat(ins)
                self.assertEqual(again.beat(ins), told)
                for other in others:
                    self.assertEqual(other.beat(flat_ins(program, ins)), told)
                    self.assertEqual(other.kept(), run.kept())

    def test_steps_never_take_more_than_told(self):
        for seed, program, flat in opened_by_chance(40):
            code = Code(flat)
            run, chance = CodeRun(code), random.Random(seed)
            for _ in range(5):
                run.beat(flat_ins(program, some_ins(program, chance)))
                self.assertLessEqual(run.taken(), code.most())
            self.assertEqual(code.room(), code.registers() + len(code.cells()))


class Names(RefusalCase):
    def test_all_names_called_otherwise(self):
        for seed, program, flat in opened_by_chance(80):
            other = Renamed(program)
            far = other.program
            self.assertEqual(read(written(far)), far)
            flat_too = opened(far)
            net, net_too = Net(flat), Net(flat_too)
            code, code_too = Code(flat), Code(flat_too)
            self.assertEqual((len(flat), len(code), code.room(), code.most()), (len(flat_too), len(code_too), code_too.room(), code_too.most()))
            self.assertEqual((len(net), net.deep(), [gate for gate in net.gates() if gate[0] == "in"]), (len(net_too), net_too.deep(), [gate for gate in net_too.gates() if gate[0] == "in"]))
            self.same_runs(program, far, seed)
            for name in other.nodes:
                awaited = {otherwise(out): [otherwise(one) for one in ins] for out, ins in hangs(program, name).items()}
                self.assertEqual(list(hangs(far, other.nodes[name]).items()), list(awaited.items()))
            self.assertEqual([why for _, why in led_over(program, program)], [why for _, why in led_over(far, far)])
            self.same_sayings(program, far)

    def same_runs(self, program, far, seed):
        chance = random.Random(seed)
        pairs = [(Run(program), Run(far)), (Live(program), Live(far)), (Trace(program), Trace(far))]
        wires, wires_too = NetRun(Net(opened(program))), NetRun(Net(opened(far)))
        for _ in range(4):
            ins = some_ins(program, chance)
            ins_too = {otherwise(name): ins[name] for name in ins}
            for run, run_too in pairs:
                told = run.beat(ins)
                self.assertEqual(run_too.beat(ins_too), {otherwise(name): told[name] for name in told})
                self.assertEqual(list(self.called(run.kept()).items()), list(run_too.kept().items()))
            outs = wires.beat(flat_ins(program, ins))
            self.assertEqual(wires_too.beat(flat_ins(far, ins_too)), {otherwise(name): outs[name] for name in outs})

    def called(self, kept):
        """What is kept, by the new names, rising by these."""
        told = {item if item[0] != "last" else (*item[:2], otherwise(item[2]), item[3]): kept[item] for item in kept}
        return {item: told[item] for item in sorted(told)}

    def same_sayings(self, program, far):
        for out, kind, _, _ in program.node(program.main())[2]:
            if kind == 1:
                answers = []
                for one, name in ((program, out), (far, otherwise(out))):
                    try:
                        word, shown = saying(one, name, most=30)
                        answers.append((word, len(shown)))
                    except TooMany as refusal:
                        answers.append(refusal.many)
                self.assertEqual(answers[0], answers[1])


if __name__ == "__main__":
    import unittest
    unittest.main()
