"""A desk, which answers lines of text about a program and its runs."""

from beatrows.desklines import line_of
from beatrows.deskruns import run_begun
from beatrows.errors import NoBeats, NoProgram
from beatrows.fitting import clocks_by, order_by
from beatrows.nodetext import show_node
from beatrows.programs import read_program
from beatrows.renaming import renamed
from beatrows.telling import cells_in, summary_of
from beatrows.turning import nodes_turned, turned
from beatrows.writing import written_out


class Desk:
    """Rows, a program and a run, by lines that are told one at a time."""

    def __init__(self):
        self._rows = []
        self._program = None
        self._run = None

    def say(self, line):
        """The texts that answer a line, any thing; refused with NoLine, NoProgram, NoBeats, then as the line is."""
        word, told = line_of(line)
        if word in ("row", "rows", "clear", "read"):
            return self._about_rows(word, told)
        if self._program is None:
            raise NoProgram(None)
        if word in ("beat", "beats", "faults", "value", "cells", "stand"):
            if self._run is None:
                raise NoBeats(None)
            return self._about_run(word, told)
        if word in ("ask", "loop", "part"):
            self._run = run_begun(self._program, word, told[0])
            return []
        if word in ("turn", "sort", "title", "name"):
            self._program = _put_otherwise(self._program, word, told)
            self._run = None
            return []
        if word == "nodes":
            return self._program.names()
        return _about_node(self._program, word, told[0])

    def _about_rows(self, word, told):
        if word == "rows":
            return list(self._rows)
        if word == "row":
            self._rows.append(told[0])
        elif word == "clear":
            self._rows = []
        else:
            self._program = read_program("\n".join(self._rows))
            self._run = None
            return self._program.names()
        return []

    def _about_run(self, word, told):
        if word == "beat":
            return self._run.step(told)
        if word == "beats":
            return self._run.beats()
        if word == "faults":
            return self._run.faults()
        if word == "value":
            return self._run.value(told[0], told[1])
        if word == "cells":
            return self._run.cells()
        self._run = self._run.stood(told)
        return []


def _put_otherwise(program, word, told):
    """The program that comes by turn, sort, title, or name."""
    if word == "turn":
        return turned(program, told[0], told[1:])
    if word == "sort":
        return nodes_turned(program, told)
    if word == "title":
        return renamed(program, {told[0]: told[1]}, {})
    return renamed(program, {}, {told[0]: {told[1]: told[2]}})


def _about_node(program, word, name):
    """The answer to a line about a node that changes nothing."""
    if word == "show":
        return show_node(program.named(name)).split("\n")
    if word == "write":
        return show_node(written_out(program, name)).split("\n")
    if word == "below":
        return program.below(name)
    if word == "clocks":
        return [" ".join([each, *clock]) for each, clock in clocks_by(program, name).items()]
    if word == "order":
        return order_by(program, name)
    if word == "tells":
        return [" ".join(_summary_words(*part)) for part in summary_of(program, name)]
    return [str(cells_in(program, name))]


def _summary_words(out, labels, follows, hangs):
    return [out, ":", *labels, ":", *follows, ":", *hangs]
