"""A shell: commands about a library, and their answers."""

from fromparts.ask.building import shortest
from fromparts.ask.questions import builds
from fromparts.base.libraries import Library
from fromparts.base.programs import Program, is_program
from fromparts.base.types import Type
from fromparts.count.counts import count
from fromparts.count.listing import program_at, rank_of
from fromparts.errors import (InvalidLibrary, InvalidNumber, InvalidOperation, InvalidProgram, InvalidWord, NoProgram,
                              ParseError, TooMany, UnknownWord)
from fromparts.part.uses import surplus_parts, use_of
from fromparts.text.pieces import integer_of
from fromparts.text.texts import write_library

_COLON = " : "
_NONE = "none"
_OK = "ok"
_YES = "yes"
_NO = "no"


def _items(text, between):
    """Two items with something between them, the first one of which is not empty."""
    first, found, second = text.partition(between)
    if not first or not found:
        raise ParseError(None)
    return first, second


def _word_of(text):
    """The only item that a text has."""
    if not text or " " in text:
        raise ParseError(None)
    return text


def _part(library, rest):
    name, text = _items(rest, _COLON)
    wanted = Type.read(text)
    return library.with_part(_word_of(name), wanted)


def _drop(library, rest):
    return library.without(_word_of(rest))


def _builds(library, rest):
    return _YES if builds(library, Type.read(rest)) else _NO


def _shortest(library, rest):
    try:
        return shortest(library, Type.read(rest)).text
    except NoProgram:
        return _NONE


def _count(library, rest):
    many = count(library, Type.read(rest))
    return "endless" if many is None else str(many)


def _program(library, rest):
    word, text = _items(rest, " ")
    goal = Type.read(text)
    rank = integer_of(word)
    if rank is None:
        raise ParseError(None)
    try:
        return program_at(library, goal, rank).text
    except NoProgram:
        return _NONE


def _rank(library, rest):
    written, text = _items(rest, _COLON)
    return str(rank_of(library, Type.read(text), Program.read(written)))


def _use(library, rest):
    part, text = _items(rest, " ")
    try:
        return use_of(library, Type.read(text), part)
    except NoProgram:
        return "none built"


def _kind(library, rest):
    written, text = _items(rest, _COLON)
    goal = Type.read(text)
    try:
        program = Program.read(written)
    except ParseError:
        return _NO
    return _YES if is_program(library, goal, program) else _NO


def _text(library):
    return write_library(library)


def _surplus(library):
    return " ".join(surplus_parts(library)) or _NONE


# What has a library as its result, and what has a text; the last ones have nothing behind their words.
_CHANGES = {"part": _part, "drop": _drop}
_QUESTIONS = {"builds": _builds, "shortest": _shortest, "count": _count, "program": _program, "rank": _rank,
              "use": _use, "kind": _kind}
_PLAIN = {"library": _text, "surplus": _surplus}


class Shell:
    """A library that is changed and asked by commands."""

    def __init__(self, library):
        if not isinstance(library, Library):
            raise InvalidLibrary("no library")
        self._library = library
        self._answers = ()

    @property
    def library(self):
        return self._library

    @property
    def answers(self):
        """The pairs of a command and its answer."""
        return self._answers

    def run(self, command):
        """The answer of a command."""
        if not isinstance(command, str):
            raise InvalidOperation("no string")
        self._library, answer = _answered(self._library, command)
        self._answers = self._answers + ((command, answer),)
        return answer

    def run_all(self, *commands):
        """The answers of commands."""
        if not all([isinstance(command, str) for command in commands]):
            raise InvalidOperation("not only strings")
        return tuple([self.run(command) for command in commands])


def _answered(library, command):
    """The library behind a command, and its answer."""
    try:
        return _done(library, command)
    except ParseError:
        return library, "error ParseError"
    except UnknownWord:
        return library, "error UnknownWord"
    except InvalidWord:
        return library, "error InvalidWord"
    except InvalidLibrary:
        return library, "error InvalidLibrary"
    except InvalidNumber:
        return library, "error InvalidNumber"
    except InvalidProgram:
        return library, "error InvalidProgram"
    except TooMany:
        return library, "error TooMany"


def _done(library, command):
    """The library behind a command, and its answer if it is one that can be done."""
    word, blank, rest = command.partition(" ")
    if blank:
        if word in _CHANGES:
            change = _CHANGES[word]
            return change(library, rest), _OK
        if word in _QUESTIONS:
            question = _QUESTIONS[word]
            return library, question(library, rest)
    elif word in _PLAIN:
        plain = _PLAIN[word]
        return library, plain(library)
    raise ParseError(None)
