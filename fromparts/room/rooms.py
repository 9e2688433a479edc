"""Rooms: worlds, their order, and the atoms that are true at them."""

from fromparts.ask.asking import Texts, first_question, least_ranks
from fromparts.ask.questions import choices_for
from fromparts.base.bits import bits_of, has_bit
from fromparts.base.programs import check_goal
from fromparts.base.types import Type
from fromparts.base.words import is_integer, is_word
from fromparts.errors import InvalidNumber, InvalidOperation, InvalidRoom, InvalidType, TooMany
from fromparts.room.refusing import Bars
from fromparts.room.worlds import alike_classes, are_truths, bearing_bits, is_order, merged_rows

MAX_WORLDS = 60


class Room:
    """Worlds with those at or above each of them, and the atoms that are true at each."""

    def __init__(self, reach, truths):
        if not is_order(reach, MAX_WORLDS) or not are_truths(reach, truths):
            raise InvalidRoom("no room")
        self._reach = reach
        self._truths = truths
        self._rows = tuple(zip(reach, truths))
        self._above = tuple([bits_of(row) for row in reach])

    @property
    def reach(self):
        return self._reach

    @property
    def truths(self):
        return self._truths

    @property
    def atoms(self):
        """All atoms that are true somewhere, ascending."""
        return tuple(sorted(set([word for row in self._truths for word in row])))

    def bears(self, world, wanted):
        """Whether a world bears a type."""
        return self.bears_all(world, wanted)

    def bears_all(self, world, *types):
        """Whether a world bears each of some types."""
        self._check_world(world)
        return world in self.bearing(*types)

    def bearing(self, *types):
        """The worlds that bear all of some types, ascending."""
        for wanted in types:
            if not isinstance(wanted, Type):
                raise InvalidType("only types are borne")
        borne = [bearing_bits(self._above, self._truths, wanted) for wanted in types]
        return tuple([at for at in range(len(self._rows)) if all([has_bit(bits, at) for bits in borne])])

    def refusing(self, library, goal):
        """The worlds that bear the types of all parts, and not the goal, ascending."""
        check_goal(library, goal)
        kinds = list(library.parts.values())
        bearing = self.bearing(*kinds)
        borne = self.bearing(goal)
        return tuple([world for world in bearing if world not in borne])

    def upper(self, world):
        """The room of the worlds at or above a world."""
        self._check_world(world)
        kept = self._reach[world]
        place = {other: at for at, other in enumerate(kept)}
        reach = [tuple([place[other] for other in self._reach[one]]) for one in kept]
        return Room(tuple(reach), tuple([self._truths[one] for one in kept]))

    def beside(self, other):
        """The room with the worlds of both, and no order between them."""
        if not isinstance(other, Room):
            raise InvalidOperation("only a room stands beside another one")
        many = len(self._rows)
        if many + len(other.reach) > MAX_WORLDS:
            raise TooMany(MAX_WORLDS)
        moved = [tuple([world + many for world in row]) for row in other.reach]
        return Room(self._reach + tuple(moved), self._truths + other.truths)

    def classes(self):
        """The tuples of the worlds that are alike one another, ascending."""
        return alike_classes(self._reach, self._truths)

    def merged(self):
        """The room with one world for each class of worlds that are alike."""
        reach, truths = merged_rows(self._reach, self._truths)
        return Room(reach, truths)

    def renamed(self, names):
        """The room with other atoms: `names` is a dict from just its atoms to different atoms."""
        if not _are_other_atoms(names, self.atoms):
            raise InvalidOperation("no dict from just the atoms to different atoms")
        return Room(self._reach, tuple([tuple(sorted([names[word] for word in row])) for row in self._truths]))

    def with_atom(self, world, word):
        """The room in which this atom is also true at this world and those above."""
        self._check_world(world)
        if not is_word(word):
            raise InvalidOperation("no word")
        truths = [tuple(sorted(set([word] + list(row)))) if other in self._reach[world] else row
                  for other, row in enumerate(self._truths)]
        return Room(self._reach, tuple(truths))

    def _check_world(self, world):
        if not is_integer(world) or not 0 <= world < len(self._rows):
            raise InvalidNumber(world)

    def __len__(self):
        return len(self._rows)

    def __getitem__(self, at):
        if not is_integer(at) or not 0 <= at < len(self._rows):
            raise InvalidNumber(at)
        return self._rows[at]

    def __iter__(self):
        return iter(self._rows)

    def __eq__(self, other):
        return isinstance(other, Room) and self._rows == other._rows

    def __str__(self):
        return f"{len(self._rows)} worlds, {len(self.atoms)} atoms"


def _are_other_atoms(names, atoms):
    """Whether these are different words for just these atoms."""
    if not isinstance(names, dict) or len(names) != len(atoms):
        return False
    if not all([word in names and is_word(names[word]) for word in atoms]):
        return False
    return len(set(list(names.values()))) == len(names)


def scopes_of(library, goal):
    """The scopes of a library and a goal, ascending."""
    check_goal(library, goal)
    return _scopes(Texts(), library, goal)


def _scopes(texts, library, goal):
    first, _ = first_question(library, goal)
    found = {first: True}
    due = [first]
    while due:
        wider = texts.wider_scopes(due.pop())
        for scope in wider:
            if scope not in found:
                found[scope] = True
                due.append(scope)
        if len(found) > MAX_WORLDS:
            raise TooMany(MAX_WORLDS)
    return tuple(sorted(found))


def scope_room(library, goal):
    """The room with a world for each scope, at which the atoms are true whose questions are answered."""
    check_goal(library, goal)
    texts = Texts()
    scopes = _scopes(texts, library, goal)
    atoms = _atoms_of(library, goal)
    answered = least_ranks({(scope, word): texts.choices((scope, word)) for scope in scopes for word in atoms})
    held = [{text: True for text in scope} for scope in scopes]
    reach = [tuple([at for at, other in enumerate(held) if all([text in other for text in scope])])
             for scope in scopes]
    return Room(tuple(reach), tuple([tuple([word for word in atoms if (scope, word) in answered])
                                     for scope in scopes]))


def _atoms_of(library, goal):
    return tuple(sorted(set(list(library.atoms) + list(goal.atoms))))


def refusal(library, goal):
    """A room with a world that refuses the goal."""
    choices = choices_for(library, goal)
    ranks = least_ranks(choices)
    first = first_question(library, goal)
    if first in ranks:
        raise InvalidOperation("the goal has a program")
    bars = Bars(choices, ranks)
    bars.bar(first)
    reach, truths = bars.rows(_atoms_of(library, goal))
    if len(reach) > MAX_WORLDS:
        reach, truths = merged_rows(reach, truths)
    if len(reach) > MAX_WORLDS:
        raise TooMany(MAX_WORLDS)
    return Room(reach, truths)


def is_refusal(library, goal, value):
    """Whether the value is a room with a world that refuses the goal."""
    check_goal(library, goal)
    return isinstance(value, Room) and len(value.refusing(library, goal)) > 0
