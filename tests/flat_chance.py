"""Flat lists made by chance from a seed, of more forms than programs are opened up to, and ins for them."""

import random

from beatflows.flats import Flat, says_so

WIDTHS = (1, 1, 1, 2, 4, 8)


class FlatMaker:
    def __init__(self, seed):
        self.chance = random.Random(seed)
        self.widths = {}
        self.clocks = {}
        self.cells = {}
        self.free = {}

    def name(self):
        number = len(self.widths)
        return self.chance.choice((("f", number), ("f", (), number), ("flow", ((number, 0),), "x", 0, -1)))

    def worth(self, width):
        return self.chance.choice((0, 2 ** width - 1, self.chance.randrange(2 ** width)))

    def clock(self):
        truths = [name for name in self.widths if self.widths[name] == 1]
        if not truths or self.chance.random() < 0.4:
            return ()
        return tuple((self.chance.choice(truths), self.chance.randint(0, 1)) for _ in range(self.chance.randint(1, 3)))

    def term(self, width, depth, cells):
        if depth > 1 and self.chance.random() < 0.8:
            return self.word(width, depth - 1, cells)
        flows = [("flat", name) for name in self.widths if self.widths[name] == width]
        items = [("cell", item) for item in cells if cells[item] == width]
        return self.chance.choice(flows * 2 + items * 2 + [("lit", width, self.worth(width))])

    def word(self, width, depth, cells):
        words = ["not", "and", "or", "xor", "add", "sub", "wide", "pick"] + ["less", "same", "bit"] * 2 * (width == 1)
        word = self.chance.choice(words)
        other = self.chance.choice(WIDTHS)
        if word == "pick":
            return (word, self.term(1, depth, cells), self.term(width, depth, cells), self.term(width, depth, cells))
        if word == "wide":
            return (word, width, self.term(other, depth, cells))
        if word == "bit":
            return (word, self.chance.randrange(other), self.term(other, depth, cells))
        if word == "not":
            return (word, self.term(width, depth, cells))
        own = other if word in ("less", "same") else width
        return (word, self.term(own, depth, cells), self.term(own, depth, cells))

    def make(self):
        ins, rows, cells, outs = [], [], [], []
        planned = [(("c", number), self.chance.choice(WIDTHS)) for number in range(self.chance.randint(0, 4))]
        for _ in range(self.chance.randint(0, 3)):
            ins.append((self.name(), self.chance.choice(WIDTHS), self.clock()))
            self.widths[ins[-1][0]] = ins[-1][1]
        begins = {}
        for item, width in planned:
            self.cells[item] = width
            begins[item] = self.begins()
            if begins[item] is None or begins[item] in self.widths:
                self.free[item] = width
        for _ in range(self.chance.randint(1, 9)):
            width = self.chance.choice(WIDTHS)
            row = (self.name(), width, self.clock(), self.term(width, self.chance.randint(1, 4), self.free))
            rows.append(row)
            self.widths[row[0]] = width
        for item, width in planned:
            begin = begins[item] if item in self.free else self.begins()
            term = self.term(width, self.chance.randint(1, 3), self.cells)
            cells.append((item, width, self.worth(width), self.clock(), term, begin))
        for number in range(self.chance.randint(1, 3)):
            first = self.chance.choice(list(self.widths))
            alike = [name for name in self.widths if self.widths[name] == self.widths[first]]
            names = (first,) + tuple(self.chance.choice(alike) for _ in range(self.chance.randint(0, 3)))
            outs.append(("abc"[number], names, self.clock()))
        return Flat(ins, rows, cells, outs)

    def begins(self):
        truths = [name for name in self.widths if self.widths[name] == 1]
        return self.chance.choice(truths) if truths and self.chance.random() < 0.7 else None


def some_flat(seed):
    return FlatMaker(seed).make()


def some_flat_ins(flat, chance):
    told = {}
    for name, width, clock in flat.ins():
        if says_so(clock, told):
            told[name] = chance.randrange(2 ** width)
    return told
