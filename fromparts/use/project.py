"""Projects: a library that changes, and sayings that hold at all times."""

from fromparts.base.libraries import MAX_PARTS, Library
from fromparts.base.types import Type
from fromparts.base.words import is_integer, is_word
from fromparts.errors import (InvalidLibrary, InvalidNumber, InvalidOperation, InvalidType, InvalidWord, NothingToUndo,
                              Refused, TooMany, UnknownWord)
from fromparts.use.facts import Memory
from fromparts.use.sayings import is_about, is_saying, with_name

MAX_SAYINGS = 10
MAX_CHANGES = 200

_PUT = "put"
_REMOVE = "remove"
_RENAME = "rename"
_PIN = "pin"
_UNPIN = "unpin"
# How many arguments each change has.
_CHANGES = {"put": 2, "remove": 1, "rename": 2, "pin": 1, "unpin": 1}


class Version:
    """What a project is at a time: its library, its sayings, the words of the changes, and what was ahead of it."""

    def __init__(self, facts, pins, words, behind):
        self.facts = facts
        self.stock = facts.stock
        self.pins = pins
        self.words = words
        self.behind = behind
        self.row = facts.stock.names


class Held:
    """A version of a project with what can be done again, and what was held ahead of it."""

    def __init__(self, version, undone, behind):
        self.version = version
        self.undone = undone
        self.behind = behind


class Block:
    """Behind a block, all of a project is as ahead of it."""

    def __init__(self, project):
        self._project = project
        self._held = None

    def __enter__(self):
        self._held = self._project.held_behind(self._held)
        return self._project

    def __exit__(self, kind, value, trace):
        self._project._version = self._held.version
        self._project._undone = self._held.undone
        self._held = self._held.behind


class Project:
    """A library with pinned sayings, which changes, and of which changes are taken back."""

    def __init__(self, library):
        if not isinstance(library, Library):
            raise InvalidLibrary("no library")
        # What holds in a library depends on this alone, so twins have the memory together.
        self._memory = Memory()
        self._version = Version(self._memory.facts_of(library), (), (), None)
        # The versions that can be done again, the next one first.
        self._undone = ()

    @property
    def library(self):
        return self._version.stock

    @property
    def sayings(self):
        return self._version.pins

    @property
    def log(self):
        """The words of the changes that are in effect."""
        return self._version.words

    def put(self, part, wanted):
        """Adds a part, or gives it another type; the news."""
        if not is_word(part):
            raise InvalidWord("the name is no word")
        if not isinstance(wanted, Type):
            raise InvalidType("a part has a type")
        version = self._version
        if part in version.stock and version.stock[part] == wanted:
            return self._stayed(_PUT, version.pins, ())
        parts = version.stock.parts
        parts[part] = wanted
        return self._changed(_PUT, parts, version.pins)

    def remove(self, part):
        """Takes a part away; the news."""
        self._check_part(part)
        parts = self._version.stock.parts
        del parts[part]
        return self._changed(_REMOVE, parts, self._version.pins)

    def rename(self, part, name):
        """Gives a part another name, also in the sayings; the news."""
        self._check_part(part)
        if not is_word(name):
            raise InvalidWord("the name is no word")
        version = self._version
        if name == part:
            return self._stayed(_RENAME, version.pins, ())
        if name in version.stock:
            raise InvalidOperation("another part has this name")
        pins = tuple([with_name(one, part, name) for one in version.pins])
        self._check_room(pins, version.row)
        library = version.stock.renamed({one: name if one == part else one for one in version.row})
        return self._turned_to(_RENAME, self._memory.facts_with_name(version.facts, library, part, name), pins)

    def pin(self, saying):
        """Pins a saying, which holds from now on; the news."""
        self._check_saying(saying)
        if saying in self._version.pins:
            raise InvalidOperation("it is pinned already")
        return self._stayed(_PIN, self._version.pins + (saying,), (saying,))

    def unpin(self, saying):
        """Unpins a saying; the news."""
        self._check_saying(saying)
        if saying not in self._version.pins:
            raise InvalidOperation("it is not pinned")
        pins = tuple([one for one in self._version.pins if one != saying])
        return self._stayed(_UNPIN, pins, ())

    def _check_part(self, part):
        if part not in self._version.stock:
            raise UnknownWord(part)

    def _check_saying(self, saying):
        if not is_saying(self._memory, self._version.stock, saying):
            raise InvalidOperation("no saying about parts of the library")

    def _check_room(self, pins, parts):
        """Refuses more sayings, changes or parts than are let."""
        if len(pins) > MAX_SAYINGS:
            raise TooMany(MAX_SAYINGS)
        if len(self._version.words) >= MAX_CHANGES:
            raise TooMany(MAX_CHANGES)
        if len(parts) > MAX_PARTS:
            raise TooMany(MAX_PARTS)

    def _stayed(self, word, pins, added):
        """Makes a change after which the library is as it was, and these are the sayings; the news, which is none.

        Sayings that were pinned ahead of it hold as they did, so only those that are added are asked.
        """
        version = self._version
        self._check_room(pins, version.row)
        lost = _lost(version.facts, added)
        if lost:
            raise Refused(lost[0])
        self._go_on(word, version.facts, pins)
        return ()

    def _changed(self, word, parts, pins):
        """Makes a change after which these are the parts and the sayings; the news."""
        self._check_room(pins, parts)
        if not all([is_about(parts, saying) for saying in pins]):
            raise InvalidOperation("a part of a pinned saying is lacking")
        return self._turned_to(word, self._memory.facts_of(Library(parts)), pins)

    def _turned_to(self, word, facts, pins):
        """Makes a change after which there are other facts; the news."""
        # All that is asked comes first, as too many questions are told ahead of a saying that does not hold.
        lost = _lost(facts, pins)
        news = _news(self._version.facts, facts)
        if lost:
            raise Refused(lost[0])
        self._go_on(word, facts, pins)
        return news

    def _go_on(self, word, facts, pins):
        self._version = Version(facts, pins, self._version.words + (word,), self._version)
        self._undone = ()

    def does_hold(self, saying):
        """Whether a saying holds, pinned or not."""
        self._check_saying(saying)
        return self._version.facts.holds(saying)

    def surplus(self):
        """The surplus parts, ascending."""
        return self._version.facts.surplus()

    def trial(self, *changes):
        """The news that changes would return, one behind the other."""
        if not all([_is_change(change) for change in changes]):
            raise InvalidOperation("no tuple of the name of a change and its arguments")
        same = self.twin()
        return tuple([same.change_by(change) for change in changes])

    def change_by(self, change):
        """Makes a change that is told by a tuple of its name and its arguments; the news."""
        word, first = change[0], change[1]
        if word == _PUT:
            return self.put(first, change[2])
        if word == _REMOVE:
            return self.remove(first)
        if word == _RENAME:
            return self.rename(first, change[2])
        return self.pin(first) if word == _PIN else self.unpin(first)

    def block(self):
        """What gives the project itself in a `with`, behind which all is as ahead of it."""
        return Block(self)

    def during(self, call):
        """What a call returns for the project in such a block."""
        with self.block() as same:
            return call(same)

    def held_behind(self, behind):
        """What a block holds of the project, ahead of what it held."""
        return Held(self._version, self._undone, behind)

    def undo(self, *, many=1):
        """Takes back the last changes; the news."""
        _check_many(many, len(self._version.words))
        version = self._version
        left = []
        for _ in range(many):
            left.append(version)
            version = version.behind
        return self._turned(version, tuple(left[::-1]) + self._undone)

    def redo(self, *, many=1):
        """Does the last changes again that were taken back; the news."""
        _check_many(many, len(self._undone))
        version = self._undone[many - 1] if many > 0 else self._version
        return self._turned(version, self._undone[many:])

    def _turned(self, version, undone):
        """Turns to another version; the news."""
        news = _news(self._version.facts, version.facts)
        self._version, self._undone = version, undone
        return news

    def twin(self):
        """An equal project, which changes by itself."""
        made = Project(self._version.stock)
        made._version, made._undone, made._memory = self._version, self._undone, self._memory
        return made

    def __contains__(self, x):
        return x in self._version.stock

    def __len__(self):
        return len(self._version.row)

    def __iter__(self):
        return iter(self._version.row)

    def __eq__(self, other):
        if not isinstance(other, Project):
            return False
        return self._version.stock == other._version.stock and self._version.pins == other._version.pins

    def __str__(self):
        return f"project of {len(self._version.row)} parts, {len(self._version.pins)} sayings"


def _lost(facts, sayings):
    """The sayings that do not hold, after all of them are asked."""
    return [saying for saying in sayings if not facts.holds(saying)]


def _check_many(many, most):
    if not is_integer(many) or many < 0:
        raise InvalidNumber(many)
    if many > most:
        raise NothingToUndo(many)


def _is_change(value):
    """Whether the value is a tuple of the name of a change and of as many arguments as it has."""
    if not isinstance(value, tuple) or not value or not isinstance(value[0], str):
        return False
    return value[0] in _CHANGES and len(value) == 1 + _CHANGES[value[0]]


def _news(one, other):
    """What is new, what is gone, and what else has become surplus or useful, as ascending pairs (part, word)."""
    before, after = one.stock, other.stock
    if before == after:
        return ()
    found = [(part, "new") for part in after if part not in before]
    found.extend([(part, "gone") for part in before if part not in after])
    was, now = one.surplus(), other.surplus()
    found.extend([(part, "surplus") for part in now if part in before and part not in was])
    found.extend([(part, "useful") for part in was if part in after and part not in now])
    return tuple(sorted(found))
