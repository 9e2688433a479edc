"""Libraries: named parts with types."""

from fromparts.base.types import Type
from fromparts.base.words import is_integer, is_word
from fromparts.errors import (InvalidLibrary, InvalidNumber, InvalidOperation, InvalidType, InvalidWord, ParseError,
                              UnknownWord)

MAX_PARTS = 8

_LETTERS = "abcdefghijklmnopqrstuvwxyz"
_COLON = " : "


class Library:
    """Up to eight parts with their types."""

    def __init__(self, parts=None):
        given = {} if parts is None else parts
        if not _are_parts(given):
            raise InvalidLibrary("no dict from at most eight words to types")
        self._parts = {name: given[name] for name in sorted(given)}
        self._names = tuple(self._parts)
        self._lines = tuple([f"{name}{_COLON}{self._parts[name].text}" for name in self._names])

    @classmethod
    def read(cls, *lines):
        """The library with these lines, in any order."""
        parts = {}
        for at, line in enumerate(lines):
            name, wanted = _read_line(line, at)
            if name in parts:
                raise ParseError(at)
            parts[name] = wanted
        return cls(parts)

    @property
    def parts(self):
        return {name: self._parts[name] for name in self._names}

    @property
    def names(self):
        return self._names

    @property
    def lines(self):
        return self._lines

    @property
    def atoms(self):
        """The atoms of all types, ascending."""
        return tuple(sorted(set([word for name in self._names for word in self._parts[name].atoms])))

    @property
    def scope(self):
        """The texts of the types, each once, ascending."""
        return tuple(sorted(set([self._parts[name].text for name in self._names])))

    @property
    def order(self):
        """The greatest order of a type, or 0."""
        return max([self._parts[name].order for name in self._names], default=0)

    def with_part(self, name, wanted):
        """The library with this part, or with another type for it."""
        if not is_word(name):
            raise InvalidWord("the name is no word")
        if not isinstance(wanted, Type):
            raise InvalidType("a part has a type")
        parts = self.parts
        parts[name] = wanted
        return Library(parts)

    def without(self, *names):
        """The library without these parts."""
        self._check_names(names)
        return Library({name: self._parts[name] for name in self._names if name not in names})

    def only(self, *names):
        """The library of these parts alone."""
        self._check_names(names)
        return Library({name: self._parts[name] for name in self._names if name in names})

    def renamed(self, names):
        """The library with other names of parts: `names` is a dict from just these to different words."""
        if not _are_words(names, self._names) or len(set(list(names.values()))) < len(names):
            raise InvalidOperation("no dict from just the parts to different words")
        return Library({names[name]: self._parts[name] for name in self._names})

    def with_atoms(self, names):
        """The library with other atoms: `names` is a dict from just its atoms to words."""
        if not _are_words(names, self.atoms):
            raise InvalidOperation("no dict from just the atoms to words")
        parts = {}
        for name in self._names:
            wanted = self._parts[name]
            parts[name] = wanted.renamed({word: names[word] for word in wanted.atoms})
        return Library(parts)

    def heads(self, atom):
        """The names of the parts whose types have this atom, ascending."""
        if not is_word(atom):
            raise InvalidWord("the atom is no word")
        return tuple([name for name in self._names if self._parts[name].atom == atom])

    def is_part_of(self, other):
        """Whether the other library has all these parts with the same types."""
        if not isinstance(other, Library):
            raise InvalidOperation("only a library has parts")
        return all([line in other.lines for line in self._lines])

    def _check_names(self, names):
        for name in names:
            if name not in self:
                raise UnknownWord(name)

    def __or__(self, other):
        if not isinstance(other, Library):
            raise InvalidOperation("only libraries are joined")
        added = other.parts
        if any([name in self and self[name] != added[name] for name in added]):
            raise InvalidOperation("a part has two types")
        return Library({**self._parts, **added})

    def __ror__(self, other):
        raise InvalidOperation("only libraries are joined")

    def __and__(self, other):
        if not isinstance(other, Library):
            raise InvalidOperation("only libraries have parts in common")
        return Library({name: self._parts[name] for name in self._names if _has_part(other, name, self._parts[name])})

    def __rand__(self, other):
        raise InvalidOperation("only libraries have parts in common")

    def __sub__(self, other):
        if not isinstance(other, Library):
            raise InvalidOperation("only a library is taken away")
        left = [name for name in self._names if not _has_part(other, name, self._parts[name])]
        return Library({name: self._parts[name] for name in left})

    def __rsub__(self, other):
        raise InvalidOperation("only from a library one is taken away")

    def __getitem__(self, at):
        if at not in self:
            raise UnknownWord(at)
        return self._parts[at]

    def __contains__(self, x):
        # A list or a dict cannot be looked up in a dict, so strings alone are.
        return isinstance(x, str) and x in self._parts

    def __len__(self):
        return len(self._names)

    def __iter__(self):
        return iter(self._names)

    def __eq__(self, other):
        return isinstance(other, Library) and self._lines == other._lines

    def __str__(self):
        return f"{len(self._names)} parts, {len(self.atoms)} atoms"


def fresh_names(library, count):
    """The first so many words of za, zb, .., zz that are no parts."""
    if not isinstance(library, Library):
        raise InvalidLibrary("no library")
    if not is_integer(count) or not 0 <= count <= MAX_PARTS:
        raise InvalidNumber(count)
    free = ["z" + letter for letter in _LETTERS if "z" + letter not in library]
    return tuple(free[:count])


def _are_parts(parts):
    if not isinstance(parts, dict) or len(parts) > MAX_PARTS:
        return False
    return all([is_word(name) and isinstance(parts[name], Type) for name in parts])


def _are_words(names, asked):
    """Whether these are words for just what is asked."""
    if not isinstance(names, dict) or len(names) != len(asked):
        return False
    return all([word in names and is_word(names[word]) for word in asked])


def _has_part(library, name, wanted):
    return name in library and library[name] == wanted


def _read_line(line, at):
    """The part that a line tells, and its type."""
    if not isinstance(line, str):
        raise ParseError(at)
    name, _, text = line.partition(_COLON)
    if not is_word(name):
        raise ParseError(at)
    try:
        return name, Type.read(text)
    except ParseError:
        raise ParseError(at) from None
