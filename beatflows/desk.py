"""A desk: it is told rows, and answers each with a text."""

from beatflows.edits import Live
from beatflows.errors import NoLine
from beatflows.kinds import is_name
from beatflows.opening import opened
from beatflows.sayings import saying
from beatflows.steps import Code
from beatflows.texts import read, written
from beatflows.wires import Net
from beatflows.words import number_of, worth_of
from beatflows.writing import written_worth

# The rows of one word alone.
LONE_WORDS = ("beats", "kept", "flat", "steps", "wires", "text")


class Desk:
    """Runs a program that it is told, by rows."""

    def __init__(self):
        self._live = None

    def say(self, row):
        line = _line_of(row)
        if line is None or (self._live is None and line[0] != "program"):
            raise NoLine(row)
        word = line[0]
        if word == "program":
            self._live = Live(read(line[1]))
            return "ok"
        if word == "edit":
            program = read(line[2])
            self._live.edit(program, at=line[1])
            return "ok"
        if word == "back":
            self._live.take_back(line[1])
            return "ok"
        if word == "beat":
            return _told(self._live.beat(line[1]))
        return self._answer(word, line[1])

    def _answer(self, word, name):
        """What is asked, of the run, or of the program as it runs."""
        program = self._live.program()
        if word == "beats":
            return str(self._live.beats())
        if word == "kept":
            return str(len(self._live.kept()))
        if word == "what":
            worth = self._live.worth((), name)
            return "silent" if worth is None else written_worth(worth)
        if word == "text":
            return written(program).replace("\n", ";")
        if word == "holds":
            told, shown = saying(program, name)
            return f"{told} {len(shown)}"
        return _sizes(word, opened(program))


def _line_of(row):
    """The word of a row and what stands behind it, read; None where the row is of none of the forms."""
    if not isinstance(row, str):
        return None
    word, blank, rest = row.partition(" ")
    if word in LONE_WORDS:
        return (word, None) if blank == "" else None
    if word == "beat":
        ins = _ins_of(rest.split(" ") if blank else [])
        return None if ins is None else (word, ins)
    if blank == "":
        return None
    if word == "program":
        return word, rest.replace(";", "\n")
    if word == "edit":
        beat, blank, rest = rest.partition(" ")
        number = number_of(beat)
        return None if number is None or blank == "" else (word, number, rest.replace(";", "\n"))
    if word == "back":
        number = number_of(rest)
        return None if number is None else (word, number)
    if word == "what" or word == "holds":
        return (word, rest) if is_name(rest) else None
    return None


def _ins_of(words):
    """The dict of ins that words as `x=3` and `y=1,2` tell, None where one is of another form or tells one twice."""
    told = {}
    for word in words:
        name, _, written_one = word.partition("=")
        worth = worth_of(written_one)
        if not is_name(name) or worth is None or name in told:
            return None
        told[name] = worth
    return told


def _told(outs):
    if not outs:
        return "silent"
    return " ".join([f"{name}={written_worth(outs[name])}" for name in outs])


def _sizes(word, flat):
    if word == "flat":
        return f"{len(flat.ins()) + len(flat)} {len(flat.cells())}"
    if word == "steps":
        code = Code(flat)
        return f"{len(code)} {code.room()} {code.most()}"
    net = Net(flat)
    return f"{len(net)} {net.deep()}"
