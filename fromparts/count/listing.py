"""All programs of a goal in order: by their sizes, and then by their nodes."""

from fromparts.base.programs import MAX_NODES, Program, check_goal, check_program, is_program
from fromparts.base.words import is_integer
from fromparts.count.counts import check_size, number_of_size, tallied
from fromparts.count.tally import Tally
from fromparts.count.walking import nodes_with, rank_within, rows_in_order
from fromparts.errors import InvalidNumber, InvalidProgram, NoProgram, TooMany

MAX_BETWEEN = 100


def programs_of(library, goal, size):
    """A generator: the programs of this size, in order."""
    check_size(library, goal, size)
    tally = Tally(library, goal)
    number_of_size(tally, size)
    for nodes in rows_in_order(tally, library, goal, size):
        yield Program(nodes)


def all_programs(library, goal, *, most=MAX_NODES):
    """A generator: the programs of at most so many nodes, in order."""
    check_size(library, goal, most)
    tally, _ = tallied(library, goal, most)
    for size in range(1, most + 1):
        for nodes in rows_in_order(tally, library, goal, size):
            yield Program(nodes)


def program_at(library, goal, rank):
    """The program with this rank."""
    check_goal(library, goal)
    if not is_integer(rank) or rank < 0:
        raise InvalidNumber(rank)
    tally = Tally(library, goal)
    left = rank
    for size in range(1, MAX_NODES + 1):
        number = number_of_size(tally, size)
        if left < number:
            return Program(nodes_with(tally, library, goal, size, left))
        left -= number
    raise NoProgram(goal.text)


def rank_of(library, goal, program):
    """The number of programs ahead of this one."""
    check_program(library, goal, program)
    tally, counts = tallied(library, goal, program.size)
    return sum(counts[:-1]) + rank_within(tally, library, goal, program.nodes)


def next_program(library, goal, program):
    """The program that comes next, or None."""
    check_program(library, goal, program)
    tally, counts = tallied(library, goal, program.size)
    rank = rank_within(tally, library, goal, program.nodes) + 1
    if rank < counts[-1]:
        return Program(nodes_with(tally, library, goal, program.size, rank))
    for size in range(program.size + 1, MAX_NODES + 1):
        if number_of_size(tally, size) > 0:
            return Program(nodes_with(tally, library, goal, size, 0))
    return None


class Listing:
    """The programs of a goal with at most so many nodes."""

    def __init__(self, library, goal, size):
        check_size(library, goal, size)
        self._tally, self._counts = tallied(library, goal, size)
        self._library = library
        self._goal = goal
        self._size = size

    @property
    def library(self):
        return self._library

    @property
    def goal(self):
        return self._goal

    @property
    def size(self):
        return self._size

    @property
    def counts(self):
        return self._counts

    @property
    def total(self):
        """The number of the programs."""
        return sum(self._counts)

    def program_with(self, rank):
        """The program with this rank."""
        if not is_integer(rank) or not 0 <= rank < sum(self._counts):
            raise InvalidNumber(rank)
        size = 0
        left = rank
        while left >= self._counts[size]:
            left -= self._counts[size]
            size += 1
        return Program(nodes_with(self._tally, self._library, self._goal, size, left))

    def rank(self, program):
        """The number of programs ahead of this one."""
        if program not in self:
            raise InvalidProgram("none of these programs")
        within = rank_within(self._tally, self._library, self._goal, program.nodes)
        return sum(self._counts[:program.size]) + within

    def between(self, first, last):
        """The programs from the first rank to ahead of the last one."""
        if not is_integer(first) or first < 0:
            raise InvalidNumber(first)
        if not is_integer(last) or last < first:
            raise InvalidNumber(last)
        if last - first > MAX_BETWEEN:
            raise TooMany(MAX_BETWEEN)
        return tuple([self.program_with(rank) for rank in range(first, min(last, sum(self._counts)))])

    def __contains__(self, x):
        return is_program(self._library, self._goal, x) and x.size <= self._size

    def __eq__(self, other):
        if not isinstance(other, Listing) or self._size != other._size:
            return False
        return self._library == other._library and self._goal == other._goal

    def __str__(self):
        return f"{sum(self._counts)} programs of {self._goal.text}, up to {self._size}"
