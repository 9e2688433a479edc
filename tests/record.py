"""A plain record of a project: all versions, one behind the other, with the plain search for what holds."""

from fromparts.base.libraries import Library
from fromparts.base.types import Type
from plain import is_built, plain_surplus, plain_use
from search import first_of, is_endless, total


def plain_holds(library, saying):
    if saying[0] == "useful":
        return saying[1] not in plain_surplus(library)
    goal = Type.read(saying[1])
    built = is_built(library, goal)
    if saying[0] == "builds":
        return built
    if saying[0] == "lacks":
        return not built
    if saying[0] == "use":
        return built and plain_use(library, goal, saying[2]) == saying[3]
    if not built:
        return saying[2] == 0 and saying[2] is not None
    if is_endless(first_of(library, goal)):
        return saying[2] is None
    return saying[2] == total(library, goal)


def plain_news(before, after):
    found = [(name, "new") for name in after if name not in before]
    found += [(name, "gone") for name in before if name not in after]
    was, now = plain_surplus(before), plain_surplus(after)
    for name in after:
        if name in before and (name in was) != (name in now):
            found.append((name, "surplus" if name in now else "useful"))
    return tuple(sorted(found))


def renamed_saying(saying, part, name):
    """A saying with another name for a part; types are texts, and no parts."""
    if saying[0] == "useful":
        return ("useful", name if saying[1] == part else saying[1])
    if saying[0] == "use":
        return ("use", saying[1], name if saying[2] == part else saying[2], saying[3])
    return saying


def part_of(saying):
    return {"useful": saying[1], "use": saying[2] if len(saying) > 2 else None}.get(saying[0])


class Record:
    """All versions as triples (word, parts, sayings), and the index of the one that is in effect."""

    def __init__(self, library):
        self.versions = [(None, library.parts, ())]
        self.at = 0

    def now(self):
        return self.versions[self.at]

    def copy(self):
        made = Record(Library())
        made.versions, made.at = list(self.versions), self.at
        return made

    def log(self):
        return tuple(version[0] for version in self.versions[1:self.at + 1])

    def next_parts(self, change):
        """The parts and the sayings behind a change with good arguments."""
        _, parts, sayings = self.now()
        parts = dict(parts)
        word = change[0]
        if word == "put":
            parts[change[1]] = change[2]
        elif word == "remove":
            del parts[change[1]]
        elif word == "rename":
            parts[change[2]] = parts.pop(change[1])
            sayings = tuple(renamed_saying(one, change[1], change[2]) for one in sayings)
        elif word == "pin":
            sayings = sayings + (change[1],)
        else:
            sayings = tuple(one for one in sayings if one != change[1])
        return parts, sayings

    def change(self, change):
        """What a change with good arguments returns, or the word of the error with what it keeps."""
        parts, sayings = self.next_parts(change)
        if len(sayings) > 10:
            return "TooMany", 10
        if self.at >= 200:
            return "TooMany", 200
        if len(parts) > 8:
            return "TooMany", 8
        if any(part_of(one) is not None and part_of(one) not in parts for one in sayings):
            return "InvalidOperation", None
        library = Library(parts)
        for one in sayings:
            if not plain_holds(library, one):
                return "Refused", one
        news = plain_news(Library(self.now()[1]), library)
        self.versions = self.versions[:self.at + 1] + [(change[0], parts, sayings)]
        self.at += 1
        return news

    def turn(self, many):
        """What going on by so many versions, or back, returns."""
        if not 0 <= self.at + many < len(self.versions):
            return "NothingToUndo", abs(many)
        before = Library(self.now()[1])
        self.at += many
        return plain_news(before, Library(self.now()[1]))
