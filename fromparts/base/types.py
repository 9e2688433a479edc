"""Types: atoms, and functions from types to an atom."""

from fromparts.base.words import is_integer, is_word
from fromparts.errors import InvalidNumber, InvalidOperation, InvalidType, InvalidWord, ParseError

MAX_PLACES = 15
MAX_ORDER = 4

_ARROW = " -> "


class Type:
    """The type of the functions that take values of some types and give one of an atom."""

    def __init__(self, inputs, atom):
        if not _is_tuple_of_types(inputs):
            raise InvalidType("the inputs are no tuple of types")
        if not is_word(atom):
            raise InvalidWord("the atom is no word")
        places = [word for one in inputs for word in one._places] + [atom]
        order = max([one.order + 1 for one in inputs], default=0)
        if len(places) > MAX_PLACES or order > MAX_ORDER:
            raise InvalidType("too many places, or too great an order")
        self._inputs = inputs
        self._atom = atom
        self._places = tuple(places)
        self._order = order
        self._text = _ARROW.join([_text_inside(one) for one in inputs] + [atom])

    @classmethod
    def read(cls, text):
        """The type with this text."""
        if not isinstance(text, str):
            raise ParseError(None)
        try:
            found = _read_freely(text, MAX_ORDER)
        except (InvalidType, InvalidWord):
            raise ParseError(None) from None
        # A type has one text, so one with parentheses that are not due is the text of none.
        if found.text != text:
            raise ParseError(None)
        return found

    @classmethod
    def plain(cls, atom):
        """The type without arguments."""
        return cls((), atom)

    @property
    def inputs(self):
        return self._inputs

    @property
    def atom(self):
        return self._atom

    @property
    def text(self):
        return self._text

    @property
    def order(self):
        return self._order

    @property
    def atoms(self):
        """The words in the type, ascending."""
        return tuple(sorted(set(self._places)))

    @property
    def parts(self):
        """The type and the parts of its arguments, each once, ascending by their texts."""
        inner = [part for one in self._inputs for part in one.parts]
        by_text = {part.text: part for part in [self] + inner}
        return tuple([by_text[text] for text in sorted(by_text)])

    @property
    def positive(self):
        """The atoms at positive places, ascending."""
        inner = [word for one in self._inputs for word in one.negative]
        return tuple(sorted(set([self._atom] + inner)))

    @property
    def negative(self):
        """The atoms at negative places, ascending."""
        inner = [word for one in self._inputs for word in one.positive]
        return tuple(sorted(set(inner)))

    def __rshift__(self, other):
        if not isinstance(other, Type):
            raise InvalidOperation("only a type takes a further argument")
        return Type((self,) + other.inputs, other.atom)

    def __rrshift__(self, other):
        raise InvalidOperation("only a type is a further argument")

    def __mod__(self, other):
        if not is_integer(other) or not 0 <= other <= len(self._inputs):
            raise InvalidOperation("no number of arguments of the type")
        return Type(self._inputs[other:], self._atom)

    def __rmod__(self, other):
        raise InvalidOperation("only a type has arguments to leave out")

    def renamed(self, names):
        """The type with other atoms: `names` is a dict from just its atoms to words."""
        if not _is_renaming(names, self.atoms):
            raise InvalidOperation("no dict from just the atoms to words")
        inputs = [one.renamed({word: names[word] for word in one.atoms}) for one in self._inputs]
        return Type(tuple(inputs), names[self._atom])

    def put(self, atom, other):
        """The type with another one in the place of an atom."""
        if not is_word(atom):
            raise InvalidWord("the atom is no word")
        if not isinstance(other, Type):
            raise InvalidType("only a type can be put in")
        inputs = tuple([one.put(atom, other) for one in self._inputs])
        if self._atom == atom:
            return Type(inputs + other.inputs, other.atom)
        return Type(inputs, self._atom)

    def __len__(self):
        return len(self._places)

    def __getitem__(self, at):
        if not is_integer(at) or not 0 <= at < len(self._inputs):
            raise InvalidNumber(at)
        return self._inputs[at]

    def __iter__(self):
        return iter(self._inputs)

    def __contains__(self, x):
        return isinstance(x, Type) and x.text in [part.text for part in self.parts]

    def __eq__(self, other):
        return isinstance(other, Type) and self._text == other._text

    def __str__(self):
        return str(self._text)


def _is_tuple_of_types(value):
    return isinstance(value, tuple) and all([isinstance(one, Type) for one in value])


def _is_renaming(names, atoms):
    """Whether these are names for just these atoms."""
    if not isinstance(names, dict) or len(names) != len(atoms):
        return False
    return all([word in names and is_word(names[word]) for word in atoms])


def _text_inside(wanted):
    """The text of a type where it stands as an argument."""
    if wanted.inputs:
        return f"({wanted.text})"
    return wanted.text


def _read_freely(text, depth):
    """The type of a text that may also have parentheses that are not due, nested no deeper than this."""
    pieces = _pieces(text)
    inputs = [_read_piece(piece, depth) for piece in pieces[:-1]]
    return Type(tuple(inputs), pieces[-1])


def _read_piece(piece, depth):
    # The depth is bounded as a long text can have thousands of parentheses.
    if depth > 0 and piece.startswith("(") and piece.endswith(")"):
        return _read_freely(piece[1:-1], depth - 1)
    return Type.plain(piece)


def _pieces(text):
    """What stands between the arrows of a text that are in no parentheses."""
    pieces = []
    begun = []
    depth = 0
    for piece in text.split(_ARROW):
        begun.append(piece)
        depth += piece.count("(") - piece.count(")")
        if depth == 0:
            pieces.append(_ARROW.join(begun))
            begun = []
    if begun:
        # Some parenthesis is not matched: this piece is no word, and so the text is refused.
        pieces.append(_ARROW.join(begun))
    return pieces
