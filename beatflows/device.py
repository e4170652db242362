"""The device: the steps of a code done tick by tick, by letters that come in any order."""

from beatflows.bounds import MOST_BEATS
from beatflows.errors import Busy, NoCode, NoLetter, NoNumber, TooLate, TooSlow, Twice
from beatflows.flat_rows import is_flat_name
from beatflows.flats import need_kept
from beatflows.kinds import is_whole, is_worth
from beatflows.steps import Code, Turn, wanted_ins

# The most ticks that a beat may have, and the most that go by at once.
MOST_TIME = 999
MOST_TICKS = 2000


class Device:
    """A device that does a code, tick by tick."""

    def __init__(self, code, *, time=64):
        if not isinstance(code, Code):
            raise NoCode(code)
        if not is_whole(time, 1, MOST_TIME):
            raise NoNumber(time)
        if code.most() > time:
            raise TooSlow(code.most())
        self._code = code
        self._time = time
        self._widths = {name: width for name, width, _ in code.ins()}
        self._tick = 0
        self._beat = 0
        # The beat that is under way, None where none is.
        self._turn = None
        self._kept = need_kept(code.flat(), None)
        # By beats and names, those of beats that have begun too: none may be given twice.
        self._letters = {}
        self._came = []
        self._late = []
        self._ticking = False

    def give(self, letter):
        self._need_open()
        if not self._is_letter(letter):
            raise NoLetter(letter)
        name, beat, worth = letter
        if name in self._letters_for(beat):
            raise Twice((name, beat))
        if beat < self._first_open_beat():
            raise TooLate(letter)
        self._letters.setdefault(beat, {})[name] = worth

    def ticks(self, many=1, *, told=None):
        self._need_open()
        if not is_whole(many, 0, MOST_TICKS):
            raise NoNumber(many)
        came = []
        self._ticking = True
        try:
            for _ in range(many):
                letters = self._go_by()
                came.extend(letters)
                if told is not None:
                    for letter in letters:
                        told(letter)
        finally:
            # Whatever breaks off, the device is open behind it.
            self._ticking = False
        return came

    def tick(self):
        return self._tick

    def beat(self):
        return self._beat

    def under_way(self):
        return self._turn is not None

    def lacks(self):
        if self._turn is not None or self._beat >= MOST_BEATS:
            return []
        return self._lacking()

    def given(self):
        told = []
        for beat in range(self._first_open_beat(), MOST_BEATS):
            letters = self._letters_for(beat)
            told.extend([(name, beat, letters[name]) for name in self._widths if name in letters])
        return told

    def came(self):
        return list(self._came)

    def late(self):
        return list(self._late)

    def kept(self):
        return _copied(self._kept)

    def twin(self):
        other = Device(self._code, time=self._time)
        other._tick = self._tick
        other._beat = self._beat
        other._turn = None if self._turn is None else self._turn.copied()
        other._kept = self.kept()
        other._letters = {beat: _copied(self._letters[beat]) for beat in self._letters}
        other._came = list(self._came)
        other._late = list(self._late)
        return other

    def _need_open(self):
        if self._ticking:
            raise Busy(self._beat)

    def _is_letter(self, thing):
        if not isinstance(thing, tuple) or len(thing) != 3:
            return False
        name, beat, worth = thing
        if not is_flat_name(name) or name not in self._widths:
            return False
        return is_whole(beat, 0, MOST_BEATS - 1) and is_worth(worth, self._widths[name])

    def _letters_for(self, beat):
        return self._letters.get(beat, {})

    def _first_open_beat(self):
        """The first beat that hasn't begun."""
        return self._beat if self._turn is None else self._beat + 1

    def _lacking(self):
        letters = self._letters_for(self._beat)
        return [name for name in wanted_ins(self._code.flat(), letters) if name not in letters]

    def _go_by(self):
        """Let one tick go by; tell the out letters that come at it."""
        if self._turn is None and self._may_begin():
            self._begin()
        letters = []
        if self._turn is not None:
            self._turn.step()
            if self._turn.ended():
                letters = self._end()
        self._tick += 1
        return letters

    def _may_begin(self):
        if self._beat >= MOST_BEATS or self._tick < self._beat * self._time:
            return False
        return not self._lacking()

    def _begin(self):
        letters = self._letters_for(self._beat)
        needed = {name: letters[name] for name in wanted_ins(self._code.flat(), letters)}
        self._turn = Turn(self._code, self._kept, needed)
        later = self._tick - self._beat * self._time
        if later > 0:
            self._late.append((self._beat, later))

    def _end(self):
        told = self._turn.outs()
        letters = [(name, self._beat, told[name], self._tick) for name in told]
        self._kept = self._turn.kept()
        self._turn = None
        self._came.extend(letters)
        self._beat += 1
        return letters


def _copied(worths):
    return {name: worths[name] for name in worths}
