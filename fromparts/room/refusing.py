"""A small room that refuses a type without programs.

Its worlds are scopes, and one is above another one if it has all its types. An atom is not true at a scope if its
question is barred there or at a scope above, for a barred set of questions that is small: where a subquestion of a
barred question is not answered, any question with the same atom and a wider scope can be barred for it.
"""

from fromparts.base.bits import bits_of


class Bars:
    """Barred questions, each with its scope as bits; `choices` and `ranks` are those of the questions asked."""

    def __init__(self, choices, ranks):
        self._choices = choices
        self._ranks = ranks
        texts = sorted(set([text for scope, _ in choices for text in scope]))
        self._numbers = {text: at for at, text in enumerate(texts)}
        self._unanswered = {}
        for question in choices:
            if question not in ranks:
                self._unanswered.setdefault(question[1], []).append((self._bits(question[0]), question))
        self._barred = {}
        self._worlds = {}

    def _bits(self, scope):
        return bits_of([self._numbers[text] for text in scope])

    def bar(self, first):
        """Bars a question that is not answered, and what must be barred for this."""
        due = [self._take([first])]
        while due:
            barred = due.pop()
            for _, asked in self._choices[barred]:
                lacking = [question for question in asked if question not in self._ranks]
                if not any([self._is_barred(question) for question in lacking]):
                    due.append(self._take(lacking))

    def _is_barred(self, question):
        """Whether the atom is barred at a scope that has all types of this one."""
        bits = self._bits(question[0])
        return any([other & bits == bits for other in self._barred.get(question[1], [])])

    def _take(self, several):
        """Bars one question in the place of any of these: at a scope that is a world, or else at a wide one."""
        found = []
        for question in several:
            bits = self._bits(question[0])
            wider = [(other, one) for other, one in self._unanswered[question[1]] if other & bits == bits]
            found.extend([(other not in self._worlds, -len(one[0]), one, other) for other, one in wider])
        _, _, taken, bits = min(found)
        self._barred.setdefault(taken[1], []).append(bits)
        self._worlds[bits] = True
        return taken

    def rows(self, atoms):
        """For each world the worlds at or above it, and the atoms that are true at it."""
        worlds = sorted(self._worlds)
        reach = [tuple([at for at, other in enumerate(worlds) if other & bits == bits]) for bits in worlds]
        return tuple(reach), tuple([self._true_at(bits, atoms) for bits in worlds])

    def _true_at(self, bits, atoms):
        barred = self._barred
        return tuple([word for word in atoms if not any([other & bits == bits for other in barred.get(word, [])])])
