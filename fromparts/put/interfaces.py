"""Interfaces: the types in which near parts and far parts of a program meet."""

from fromparts.ask.questions import builds
from fromparts.base.libraries import MAX_PARTS, Library, fresh_names
from fromparts.base.programs import MAX_NODES, Program, check_goal, check_program, is_program
from fromparts.base.types import MAX_PLACES, Type
from fromparts.errors import InvalidOperation, InvalidProgram, InvalidType, ParseError, TooMany
from fromparts.put.bundles import bundled_by_atom, bundled_by_type
from fromparts.put.cutting import Cutting
from fromparts.put.putting import check_library, gives_back
from fromparts.put.trees import nodes_of_tree

# Of so many types all sets are tried of those that near heads take from the far side; of more types a few sets.
_MANY_TYPES = 4


def shared_atoms(library, near, goal):
    """The atoms of near parts that far parts or the goal have, too, ascending."""
    _check_near(library, near)
    check_goal(library, goal)
    far = list(library.without(*near).atoms) + list(goal.atoms)
    return tuple([word for word in library.only(*near).atoms if word in far])


def _check_near(library, near):
    check_library(library)
    if not isinstance(near, tuple) or not all([name in library for name in near]):
        raise InvalidOperation("no tuple of names of parts")
    if tuple(sorted(set(near))) != near:
        raise InvalidOperation("the names do not ascend")


def interface_of(library, near, goal, program):
    """An interface of a program: a row of types, near programs of these, and a far program."""
    shared = shared_atoms(library, near, goal)
    told = check_program(library, goal, program)
    many_far = len(library) - len(near)
    most = 0
    for bundle, loose, is_strict, lifts, joins in _manners(told, shared):
        cutting = Cutting(program.nodes, told, near, loose, is_strict, lifts, joins)
        rows, far = cutting.rows(), cutting.far_tree()
        if bundle is not None:
            rows, far = bundle(rows, far, cutting.numbers())
        if many_far + len(rows) <= MAX_PARTS:
            value, passed = _interface_with(rows, far, fresh_names(library, len(rows)))
            if value is not None:
                return value
            most = max(most, passed)
    # What is too much in the best manner: parts, or else places of types, or else nodes.
    limits = (MAX_PARTS, MAX_PLACES, MAX_NODES)
    raise TooMany(limits[most])


def _manners(told, shared):
    """The manners in which a program is cut, which are tried one after another."""
    kinds = {wanted.text: wanted for wanted, _ in told}
    texts = tuple([text for text in sorted(kinds) if all([word in shared for word in kinds[text].atoms])])
    lifts = [(True, False), (True, True), (False, True), (False, False)]
    # With all these types, near parts over shared atoms are given as they are, if equal trees are not joined for them.
    several = [(loose, both) for loose in [texts, ()] for both in lifts]
    several.extend([(loose, both) for loose in _rows_of_some(texts) for both in lifts[:2]])
    return [(bundle, loose, is_strict, both, (True, joins)) for bundle in (None, bundled_by_type, bundled_by_atom)
            for loose, both in several for is_strict in (True, False) for joins in (False, True)]


def _rows_of_some(texts):
    """Rows of some texts, neither of all nor of none."""
    if len(texts) > _MANY_TYPES:
        return [(text,) for text in texts] + [tuple([one for one in texts if one != text]) for text in texts]
    rows = [()]
    for text in texts:
        rows = rows + [row + (text,) for row in rows]
    return [row for row in rows if 0 < len(row) < len(texts)]


def _interface_with(rows, far, names):
    """The interface that is cut so, or None, and how many limits have been passed by."""
    row = _row_of(rows)
    if row is None:
        return None, 1
    try:
        given = tuple([Program(nodes_of_tree(tree, {}, 0)) for _, _, tree in rows])
        told = {number: names[at] for at, (number, _, _) in enumerate(rows)}
        return (row, given, Program(nodes_of_tree(far, told, 0))), 2
    except InvalidProgram:
        return None, 2


def _row_of(rows):
    """The types of what is given, or None if some are too large."""
    try:
        return tuple([Type.read(text) for _, text, _ in rows])
    except ParseError:
        return None


def is_interface(library, near, goal, program, value):
    """Whether the value is an interface of a program."""
    shared = shared_atoms(library, near, goal)
    check_program(library, goal, program)
    if not isinstance(value, tuple) or len(value) != 3 or not _are_types(value[0]):
        return False
    row, given, far = value
    if not _are_over(row, shared) or len(library) - len(near) + len(row) > MAX_PARTS:
        return False
    if not isinstance(given, tuple) or len(given) != len(row):
        return False
    near_library = library.only(*near)
    if not all([is_program(near_library, wanted, one) for wanted, one in zip(row, given)]):
        return False
    names = fresh_names(library, len(row))
    if not is_program(far_library(library, near, row), goal, far) or not all([name in far for name in names]):
        return False
    return gives_back(far, {name: given[at] for at, name in enumerate(names)}, program)


def _are_types(value):
    return isinstance(value, tuple) and all([isinstance(one, Type) for one in value])


def _are_over(row, atoms):
    """Whether types have only these atoms."""
    return all([word in atoms for wanted in row for word in wanted.atoms])


def far_library(library, near, row):
    """The library of the far parts and of new ones with the types of a row."""
    _check_near(library, near)
    if not _are_types(row):
        raise InvalidType("no tuple of types")
    far = library.without(*near)
    if len(far) + len(row) > MAX_PARTS:
        raise TooMany(MAX_PARTS)
    names = fresh_names(library, len(row))
    return Library({**far.parts, **{name: row[at] for at, name in enumerate(names)}})


def does_pass(library, near, goal, row):
    """Whether near parts build the types of a row over shared atoms, and far parts with these build the goal."""
    shared = shared_atoms(library, near, goal)
    whole = far_library(library, near, row)
    if not _are_over(row, shared):
        return False
    near_library = library.only(*near)
    return all([builds(near_library, wanted) for wanted in row]) and builds(whole, goal)
