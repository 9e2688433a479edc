"""Putting programs in: in the place of the variables that a program binds, and in the place of parts."""

from fromparts.base.libraries import Library
from fromparts.base.programs import Program, check_program, is_program
from fromparts.base.words import VARIABLE
from fromparts.errors import InvalidLibrary, InvalidOperation, InvalidProgram
from fromparts.put.working import applied_to, comes_to, put_into, result_nodes

MAX_WORK = 20000


def own_program(library, part):
    """The own program of the type of a part."""
    check_library(library)
    return Program(_own_nodes(library[part], part, 0))


def own_puts(library):
    """The own programs of all parts."""
    check_library(library)
    return {part: own_program(library, part) for part in library}


def check_library(library):
    """Refuses what is no library."""
    if not isinstance(library, Library):
        raise InvalidLibrary("no library")


def _own_nodes(wanted, head, level):
    """The own nodes of a head of a type, where so many variables are bound above."""
    many = len(wanted.inputs)
    nodes = ((many, head, many),)
    for at, one in enumerate(wanted.inputs):
        nodes = nodes + _own_nodes(one, f"{VARIABLE}{level + at}", level + many)
    return nodes


def applied(library, goal, program, *programs):
    """The program that comes of applying a program to programs of the types of its first arguments."""
    check_program(library, goal, program)
    if len(programs) > len(goal.inputs):
        raise InvalidProgram("more programs than arguments")
    for wanted, one in zip(goal.inputs, programs):
        check_program(library, wanted, one)
    return Program(result_nodes(applied_to(program, programs), MAX_WORK))


def put_in(library, goal, program, target, puts):
    """The program that comes of putting programs over another library in the place of parts."""
    check_program(library, goal, program)
    Library(_joint_parts(library, target, puts, are_puts))
    return Program(result_nodes(put_into(program, puts), MAX_WORK))


def gives_back(far, puts, program):
    """Whether a program comes of putting programs into another one."""
    return comes_to(put_into(far, puts), program.nodes, MAX_WORK)


def joint_library(library, target, puts):
    """The library of the parts for which nothing is put in, and of the parts of another library."""
    check_library(library)
    return Library(_joint_parts(library, target, puts, _are_parts_put))


def are_puts(library, target, value):
    """Whether the value is a dict from some parts of a library to programs of their types in another one."""
    if not _are_parts_put(library, target, value):
        return False
    return all([is_program(target, library[name], value[name]) for name in value])


def _are_parts_put(library, target, value):
    return isinstance(value, dict) and all([name in library for name in value])


def _joint_parts(library, target, puts, are_good):
    """The parts of the joint library, which can be too many."""
    check_library(target)
    if not are_good(library, target, puts):
        raise InvalidOperation("no dict from some parts to their programs")
    left = [name for name in library if name not in puts]
    if any([name in target and target[name] != library[name] for name in left]):
        raise InvalidOperation("a part has two types")
    return {**{name: library[name] for name in left}, **target.parts}


def put_over(library, target, puts, source, more):
    """The puts that come of putting puts into programs over their library."""
    check_library(library)
    parts = _joint_parts(library, target, puts, are_puts)
    check_library(source)
    if not are_puts(source, library, more):
        raise InvalidOperation("no dict from some parts to their programs")
    Library(parts)
    # A program that binds too many variables is told behind all results that have too many nodes.
    rows = {name: result_nodes(put_into(more[name], puts), MAX_WORK) for name in sorted(more)}
    return {name: Program(rows[name]) for name in rows}
