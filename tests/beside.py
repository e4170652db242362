"""A Run, a FlatRun and a CodeRun of the same program, side by side."""

from beatflows.errors import TooMany
from beatflows.flats import FlatRun
from beatflows.opening import flat_ins, opened
from beatflows.runs import Run
from beatflows.steps import Code, CodeRun
from beatflows.terms import flows_of
from tests.chance import some_program
from tests.helper import RefusalCase


def flow(name, at=0, let=-1, place=()):
    """The flat name of a flow's worth."""
    return ("flow", place, name, at, let)


def opened_by_chance(many):
    """Seeds, and programs by chance that can be opened up, with their flat lists."""
    for seed in range(many):
        one = some_program(seed)
        try:
            flat = opened(one)
        except TooMany:
            continue
        yield seed, one, flat


class BesideCase(RefusalCase):
    def beside(self, one, rows):
        """The outs that all three tell, beat by beat: the same ones, with the same memory and the same worths."""
        flat = opened(one)
        code = Code(flat)
        run, flat_run, code_run = Run(one), FlatRun(flat), CodeRun(code)
        told = []
        for ins in rows:
            told.append(run.beat(ins))
            worths = flat_ins(one, ins)
            for other in (flat_run, code_run):
                self.assertEqual(list(other.beat(worths).items()), list(told[-1].items()))
                self.assertEqual(list(other.kept().items()), list(run.kept().items()))
            self.same_worths(one, run, flat_run)
            self.assertLessEqual(code_run.taken(), code.most())
        return told

    def same_worths(self, one, run, flat_run):
        for place in run.places():
            flows = flows_of(one.node(run.node_at(place)))
            for name in flows:
                kind, worth = flows[name][0], run.worth(place, name)
                many = kind[0] if isinstance(kind, tuple) else 1
                awaited = worth if isinstance(worth, tuple) else (worth,) * many
                self.assertEqual(tuple(flat_run.worth(flow(name, at, -1, place)) for at in range(many)), awaited)
