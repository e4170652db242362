"""Texts: programs and terms, written and read."""

from beatflows.errors import NoRow, NoTerm, NoText
from beatflows.node_rows import ProgramRows
from beatflows.programs import Program, need_program
from beatflows.terms import is_term
from beatflows.words import words_of_row
from beatflows.writing import written_node, written_right


def written(program):
    need_program(program)
    rows = []
    for node in program.nodes():
        rows.extend(written_node(node))
    rows.append(f"main {program.main()}")
    return "\n".join(rows)


def read(text):
    if not isinstance(text, str):
        raise NoText(text)
    taken = ProgramRows()
    rows = text.split("\n")
    for at, row in enumerate(rows):
        if not taken.take(row):
            raise NoRow(at)
    if taken.main_name is None:
        raise NoRow(len(rows))
    return Program(taken.node_tuples, main=taken.main_name)


def term_text(term):
    if not is_term(term):
        raise NoTerm(term)
    return written_right(term)


def read_term(text):
    if not isinstance(text, str) or "\n" in text:
        raise NoText(text)
    words = words_of_row(text)
    if words is None or len(words) != 1 or not is_term(words[0]):
        raise NoText(text)
    return words[0]
