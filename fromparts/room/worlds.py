"""Orders of worlds, told by rows: for each world the ascending tuple of the worlds at or above it.

Sets of worlds are told by the bits of an integer.
"""

from fromparts.ask.asking import is_ascending
from fromparts.base.bits import bits_of, has_bit
from fromparts.base.words import is_integer, is_word


def is_order(reach, limit):
    """Whether these are rows of an order of worlds, not more than the limit."""
    if not isinstance(reach, tuple) or not 1 <= len(reach) <= limit:
        return False
    if not all([_is_row(row, len(reach)) for row in reach]):
        return False
    above = [bits_of(row) for row in reach]
    return all([_is_placed(world, row, above) for world, row in enumerate(reach)])


def _is_row(row, many):
    """Whether this is an ascending tuple of the indices of so many worlds."""
    if not isinstance(row, tuple) or not all([is_integer(world) and 0 <= world < many for world in row]):
        return False
    return is_ascending(row)


def _is_placed(world, row, above):
    """Whether a world is above itself, and all above it have above them what it has, and not itself."""
    if world not in row or not all([above[other] | above[world] == above[world] for other in row]):
        return False
    return not any([has_bit(above[other], world) for other in row if other != world])


def are_truths(reach, truths):
    """Whether these are the atoms that are true at each world of an order."""
    if not isinstance(truths, tuple) or len(truths) != len(reach):
        return False
    if not all([_is_row_of_atoms(row) for row in truths]):
        return False
    true = [{word: True for word in row} for row in truths]
    return all([word in true[other] for world, row in enumerate(reach) for other in row for word in truths[world]])


def _is_row_of_atoms(row):
    return isinstance(row, tuple) and all([is_word(word) for word in row]) and is_ascending(row)


def bearing_bits(above, truths, wanted):
    """The worlds that bear a type, where `above` has for each world those at or above it."""
    true = bits_of([world for world, row in enumerate(truths) if wanted.atom in row])
    if not wanted.inputs:
        return true
    lacking = bits_of([world for world in range(len(truths)) if not has_bit(true, world)])
    for one in wanted.inputs:
        lacking = lacking & bearing_bits(above, truths, one)
    return bits_of([world for world in range(len(truths)) if above[world] & lacking == 0])


def alike_classes(reach, truths):
    """The tuples of worlds that are alike one another, ascending: those that no step tells apart any more."""
    marks = _numbered(list(truths))
    many = 0
    while many < len(set(marks)):
        many = len(set(marks))
        marks = _numbered([(marks[world], _marks_above(row, marks)) for world, row in enumerate(reach)])
    worlds = range(len(marks))
    return tuple(sorted([tuple([at for at in worlds if marks[at] == mark]) for mark in range(many)]))


def _marks_above(row, marks):
    return tuple(sorted(set([marks[world] for world in row])))


def _numbered(keys):
    """For each key the number of the first one that is equal to it, where different ones are counted."""
    numbers = {}
    for key in keys:
        if key not in numbers:
            numbers[key] = len(numbers)
    return [numbers[key] for key in keys]


def merged_rows(reach, truths):
    """The rows and the truths with one world for each class of worlds that are alike."""
    classes = alike_classes(reach, truths)
    place = {world: at for at, row in enumerate(classes) for world in row}
    merged = [tuple(sorted(set([place[other] for world in row for other in reach[world]]))) for row in classes]
    return tuple(merged), tuple([truths[row[0]] for row in classes])
