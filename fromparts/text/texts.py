"""Texts of questions, ranks, rooms, puts and libraries, from which they are read."""

from fromparts.ask.asking import Texts
from fromparts.base.libraries import Library
from fromparts.base.programs import Program
from fromparts.base.words import is_integer, is_word
from fromparts.errors import InvalidLibrary, InvalidOperation, InvalidQuestion, InvalidRoom, ParseError
from fromparts.room.rooms import Room
from fromparts.text.pieces import lines_of, number_of, text_of_lines

_BETWEEN = "; "
_ASKS = "|- "
_EQUALS = " = "
_COLON = ":"


def write_question(question):
    """The text of a question."""
    if not Texts().are_question(question):
        raise InvalidQuestion("no pair of a scope and an atom")
    return _text_of(question)


def _text_of(question):
    scope, atom = question
    ahead = _BETWEEN.join(scope) + " " if scope else ""
    return ahead + _ASKS + atom


def read_question(text):
    """The question with this text."""
    return _question_of(Texts(), text)


def _question_of(texts, text):
    if not isinstance(text, str):
        raise ParseError(None)
    ahead, _, atom = text.rpartition(_ASKS)
    scope = tuple(ahead[:-1].split(_BETWEEN)) if ahead else ()
    question = (scope, atom)
    # What stands between a scope and what it asks is told by the text of the question that is found.
    if not texts.are_question(question) or _text_of(question) != text:
        raise ParseError(None)
    return question


def write_ranks(ranks):
    """The text of ranks."""
    texts = Texts()
    if not isinstance(ranks, dict) or not all([texts.are_question(question) for question in ranks]):
        raise InvalidOperation("no dict from questions to ranks")
    if not all([is_integer(ranks[question]) and ranks[question] >= 1 for question in ranks]):
        raise InvalidOperation("no dict from questions to ranks")
    return text_of_lines([f"{ranks[question]} {_text_of(question)}" for question in sorted(ranks)])


def read_ranks(text):
    """The ranks with this text."""
    texts = Texts()
    ranks = {}
    last = None
    for at, line in enumerate(lines_of(text)):
        question, rank = _read_rank(texts, line, at)
        if last is not None and question <= last:
            raise ParseError(at)
        last = question
        ranks[question] = rank
    return ranks


def _read_rank(texts, line, at):
    """The question and the rank of a line."""
    word, _, rest = line.partition(" ")
    rank = number_of(word)
    if rank is None or rank < 1:
        raise ParseError(at)
    try:
        return _question_of(texts, rest), rank
    except ParseError:
        raise ParseError(at) from None


def write_room(room):
    """The text of a room."""
    if not isinstance(room, Room):
        raise InvalidRoom("no room")
    return "\n".join([_line_of(above, true) for above, true in room])


def _line_of(above, true):
    """The line of a world."""
    return " ".join([" ".join([str(world) for world in above]) + _COLON] + list(true))


def read_room(text):
    """The room with this text."""
    if not isinstance(text, str):
        raise ParseError(None)
    rows = [_read_world(line, at) for at, line in enumerate(text.split("\n"))]
    return Room(tuple([above for above, _ in rows]), tuple([true for _, true in rows]))


def _read_world(line, at):
    """The worlds at or above the one of a line, and the atoms that are true there."""
    ahead, _, behind = line.partition(_COLON)
    above = tuple([number_of(word) for word in ahead.split(" ")])
    true = tuple(behind.split(" ")[1:])
    if None in above or not all([is_word(word) for word in true]) or _line_of(above, true) != line:
        raise ParseError(at)
    return above, true


def write_puts(puts):
    """The text of puts."""
    if not isinstance(puts, dict) or not all([is_word(name) and isinstance(puts[name], Program) for name in puts]):
        raise InvalidOperation("no dict from words to programs")
    return text_of_lines([f"{name}{_EQUALS}{puts[name].text}" for name in sorted(puts)])


def read_puts(text):
    """The puts with this text."""
    puts = {}
    last = None
    for at, line in enumerate(lines_of(text)):
        name, program = _read_put(line, at)
        if last is not None and name <= last:
            raise ParseError(at)
        last = name
        puts[name] = program
    return puts


def _read_put(line, at):
    """The part and the program of a line."""
    name, _, rest = line.partition(_EQUALS)
    if not is_word(name):
        raise ParseError(at)
    try:
        return name, Program.read(rest)
    except ParseError:
        raise ParseError(at) from None


def write_library(library):
    """The text of a library."""
    if not isinstance(library, Library):
        raise InvalidLibrary("no library")
    return text_of_lines(list(library.lines))


def read_library(text):
    """The library with this text."""
    lines = lines_of(text)
    last = None
    for at, line in enumerate(lines):
        name = _read_name(line, at)
        if last is not None and name <= last:
            raise ParseError(at)
        last = name
    return Library.read(*lines)


def _read_name(line, at):
    """The part that a line tells."""
    try:
        return Library.read(line).names[0]
    except ParseError:
        raise ParseError(at) from None
