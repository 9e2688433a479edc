import copy
import itertools
import random
import unittest
from unittest import mock

from fromparts.ask.questions import builds, question_of
from fromparts.base.libraries import Library
from fromparts.base.types import Type
from fromparts.errors import (InvalidLibrary, InvalidNumber, InvalidOperation, InvalidRoom, InvalidType, TooMany)
from fromparts.room import rooms
from fromparts.room.rooms import MAX_WORLDS, Room, is_refusal, refusal, scope_room, scopes_of
from cases import CONT, NAT, PIPE, Case, not_sizes, not_words, others, random_goals, sample_goals, some_type
from search import first_of, height, is_borne, programs_upto, tree
from test_questions import JUST, Q, wide
from trees import text_of
from values import all_values, same

A = Type.plain("a")
TWO = Room(((0, 1), (1,)), ((), ("a",)))
PEIRCE = Type.read("((a -> b) -> a) -> a")


def some_room(rand, most=6, atoms="ab"):
    """A room with a random order: what is above is added, as is what is above that."""
    many = rand.randint(1, most)
    reach = []
    for world in reversed(range(many)):
        row = {world}
        for other in range(world + 1, many):
            if rand.random() < 0.4:
                row |= reach[many - 1 - other]
        reach.append(row)
    reach = reach[::-1]
    true = [{word for word in atoms if rand.random() < 0.3} for _ in range(many)]
    truths = [set().union(*[true[other] for other in range(many) if world in reach[other]]) for world in range(many)]
    place = list(range(many))
    rand.shuffle(place)
    back = {place[world]: world for world in range(many)}
    return (tuple(tuple(sorted(place[other] for other in reach[back[world]])) for world in range(many)),
            tuple(tuple(sorted(truths[back[world]])) for world in range(many)))


def room_data(many, seed=5):
    rand = random.Random(seed)
    return [some_room(rand) for _ in range(many)]


def sample_types(many=25):
    rand = random.Random(9)
    return [some_type(rand, rand.randint(1, 6), 3, "abc") for _ in range(many)]


def is_room(reach, truths):
    """Whether these make a room, told straight from the words of the document."""
    worlds = range(len(reach))
    if not 1 <= len(reach) <= 60 or len(truths) != len(reach):
        return False
    for world in worlds:
        row = reach[world]
        if list(row) != sorted(set(row)) or any(other not in worlds for other in row) or world not in row:
            return False
        if list(truths[world]) != sorted(set(truths[world])):
            return False
    for world, other in itertools.product(worlds, worlds):
        if other in reach[world]:
            if any(more not in reach[world] for more in reach[other]):
                return False
            if world != other and world in reach[other]:
                return False
            if any(word not in truths[other] for word in truths[world]):
                return False
    return True


def alike_pairs(reach, truths):
    """The greatest relation of worlds that are alike: pairs are taken away until nothing changes."""
    worlds = range(len(reach))
    pairs = {(one, other) for one in worlds for other in worlds if truths[one] == truths[other]}
    while True:
        kept = {(one, other) for one, other in pairs
                if all(any((up, more) in pairs for more in reach[other]) for up in reach[one])
                and all(any((more, up) in pairs for more in reach[one]) for up in reach[other])}
        if kept == pairs:
            return pairs
        pairs = kept


class Interface(Case):
    def test_constant(self):
        self.assertTrue(same(MAX_WORLDS, 60))

    def test_names_and_parameters(self):
        two = ["library", "goal"]
        for call, parameters in [(Room, ["reach", "truths"]), (scopes_of, two), (scope_room, two), (refusal, two),
                                 (is_refusal, two + ["value"])]:
            self.assertEqual(call.__module__, "fromparts.room.rooms")
            self.assertIs(getattr(rooms, call.__name__), call)
            self.assertEqual(self.parameters(call), parameters)
        for name, parameters in [("bears", ["world", "wanted"]), ("bears_all", ["world", "types"]),
                                 ("bearing", ["types"]), ("refusing", two), ("upper", ["world"]),
                                 ("beside", ["other"]), ("classes", []), ("merged", []), ("renamed", ["names"]),
                                 ("with_atom", ["world", "word"])]:
            self.assertEqual(self.parameters(getattr(TWO, name)), parameters)

    def test_methods_stand_in_the_class_itself(self):
        for name in ["reach", "truths", "atoms", "bears", "bears_all", "bearing", "refusing", "upper", "beside",
                     "classes", "merged", "renamed", "with_atom", "__len__", "__getitem__", "__iter__", "__eq__",
                     "__str__"]:
            self.assertIn(name, vars(Room))

    def test_first_example(self):
        room, peirce = Room(((0, 1), (1,)), ((), ("a",))), Type.read("((a -> b) -> a) -> a")
        self.assertTrue(same([room.bears(0, Type.read("(a -> b) -> a")), room.bears(0, Type.read("a")),
                              room.refusing(Library(), peirce), is_refusal(Library(), peirce, room), str(room)],
                             [True, False, (0,), True, "2 worlds, 1 atoms"]))

    def test_second_example(self):
        self.assertTrue(same(scopes_of(CONT, Type.read("c")),
                             (("(a -> b) -> c", "a", "b"), ("(a -> b) -> c", "b"))))
        self.assertIs(scope_room(CONT, Type.read("c")) == Room(((0,), (0, 1)), (("a", "b", "c"), ("b", "c"))), True)


class Making(Case):
    def test_random_rooms(self):
        rand = random.Random(2)
        for reach, truths in room_data(200) + [some_room(rand, 8, "hgfedcba") for _ in range(100)]:
            self.assertTrue(is_room(reach, truths))
            room = Room(reach, truths)
            self.assertTrue(same([room.reach, room.truths, len(room), list(room)],
                                 [reach, truths, len(reach), list(zip(reach, truths))]))
            self.assertTrue(same(room.atoms, tuple(sorted({word for row in truths for word in row}))))
            self.assertEqual(str(room), f"{len(reach)} worlds, {len(room.atoms)} atoms")
            for world in range(len(reach)):
                self.assertTrue(same(room[world], (reach[world], truths[world])))

    def test_all_orders_of_three_worlds(self):
        rows = [tuple(one) for many in range(4) for one in itertools.combinations(range(3), many)]
        for many in range(1, 4):
            for reach in itertools.product(rows, repeat=many):
                truths = ((),) * many
                self.judge(reach, truths)
        atoms = [(), ("a",), ("b",), ("a", "b")]
        for reach in [((0, 1), (1,)), ((0,), (0, 1)), ((0,), (1,)), ((0, 1, 2), (1, 2), (2,)), ((0,), (0, 1), (0, 2))]:
            for truths in itertools.product(atoms, repeat=len(reach)):
                self.judge(reach, truths)

    def judge(self, reach, truths):
        if is_room(reach, truths):
            self.assertEqual(Room(reach, truths).reach, reach)
        else:
            self.refused(InvalidRoom, Room, reach, truths)

    def test_what_is_no_room(self):
        good = ((0, 1), (1,)), ((), ("a",))
        wrong = [((), ()), ([(0,)], ((),)), (((0,),), [()]), (([0],), ((),)), (((0,),), ([],)), (((0,),), ("a",)),
                 (((0,),), (("A",),)), (((0,),), (("a", "a"),)), (((0,),), (("b", "a"),)), (((0,),), ((), ())),
                 (((0,), (1,)), ((),)), (((0, 0),), ((),)), (((0, 1),), ((),)), (((-1, 0),), ((),)),
                 (((False,),), ((),)), (((0, True), (1,)), ((), ())), (((1, 0), (1,)), ((), ())),
                 (((0, 1), (0, 1)), ((), ())), (((0, 1), (1, 2), (2,)), ((), (), ())), (((1,), (1,)), ((), ())),
                 (((0, 1), (1,)), (("a",), ())), (((0, 1), (1,)), (("a",), ("b",))), (((0,),), ((1,),)),
                 (((0,),), ((None,),)), (((None,),), ((),)), (((0, "1"), (1,)), ((), ())), (((0,),), (("x0",),)),
                 (((0, 10 ** 70),), ((),)), (((0,),), (("abcdefghi",),)), ({0: (0,)}, {0: ()}),
                 (((0,), (1,)), ((), ("A",))), (((0,), (1,)), (("a",), ("b", "a"))), (((0,), (1,)), ((), None)),
                 (((0,), (1,)), (["a"], ())), (((0,), [1]), ((), ())), (((0,), (1, 1)), ((), ()))]
        for reach, truths in wrong:
            self.refused(InvalidRoom, Room, reach, truths)
        for value in all_values():
            self.refused(InvalidRoom, Room, value, good[1])
            self.refused(InvalidRoom, Room, good[0], value)
            self.refused(InvalidRoom, Room, value, value)
        self.assertEqual(Room(reach=good[0], truths=good[1]), TWO)

    def test_sixty_worlds_and_sixty_one(self):
        for many in [59, 60, 61, 62, 500]:
            chain = tuple(tuple(range(world, many)) for world in range(many))
            flat = tuple((world,) for world in range(many))
            for reach in [chain, flat]:
                if many <= 60:
                    self.assertEqual(len(Room(reach, ((),) * many)), many)
                else:
                    self.refused(InvalidRoom, Room, reach, ((),) * many)

    def test_items(self):
        for value in not_sizes(1):
            self.assertTrue(same(self.refused(InvalidNumber, lambda: TWO[value]).number, value))

    def test_equality(self):
        every = [Room(*data) for data in room_data(30)]
        for one in every:
            for other in every:
                due = one.reach == other.reach and one.truths == other.truths
                self.assertIs(one == other, due)
                self.assertIs(one != other, not due)
        for value in all_values() + [(((0, 1), (1,)), ((), ("a",)))]:
            self.assertIs(TWO == value, False)
            self.assertIs(TWO != value, True)


class Bearing(Case):
    def test_what_worlds_bear(self):
        for reach, truths in room_data(60):
            room = Room(reach, truths)
            for wanted in sample_types():
                due = tuple(world for world in range(len(reach)) if is_borne(reach, truths, world, tree(wanted)))
                self.assertTrue(same(room.bearing(wanted), due))
                for world in range(len(reach)):
                    self.assertIs(room.bears(world, wanted), world in due)
                    if world in due:
                        self.assertTrue(set(reach[world]) <= set(due))

    def test_several_types(self):
        for reach, truths in room_data(30):
            room = Room(reach, truths)
            kinds = sample_types()
            for row in [kinds[:2], kinds[2:5], kinds[4:5] * 2, [], kinds]:
                due = tuple(world for world in range(len(reach))
                            if all(is_borne(reach, truths, world, tree(one)) for one in row))
                self.assertTrue(same(room.bearing(*row), due))
                for world in range(len(reach)):
                    self.assertIs(room.bears_all(world, *row), world in due)

    def test_refusing(self):
        for reach, truths in room_data(40):
            room = Room(reach, truths)
            for library, goal in sample_goals() + random_goals(21, 10, atoms="ab"):
                due = tuple(world for world in range(len(reach))
                            if all(is_borne(reach, truths, world, tree(library[name])) for name in library)
                            and not is_borne(reach, truths, world, tree(goal)))
                self.assertTrue(same(room.refusing(library, goal), due))
                self.assertIs(is_refusal(library, goal, room), len(due) > 0)
                if due:
                    self.assertIs(builds(library, goal), False)

    def test_errors(self):
        for value in not_sizes(1):
            for call in [lambda: TWO.bears(value, None), lambda: TWO.bears_all(value, None), lambda: TWO.upper(value),
                         lambda: TWO.with_atom(value, None), lambda: TWO.bears(value, A), lambda: TWO.bears_all(value)]:
                self.assertTrue(same(self.refused(InvalidNumber, call).number, value))
        for value in others(Type):
            for call in [lambda: TWO.bears(0, value), lambda: TWO.bears_all(1, value),
                         lambda: TWO.bears_all(1, A, value), lambda: TWO.bearing(value),
                         lambda: TWO.bearing(A, value, A), lambda: TWO.refusing(NAT, value)]:
                self.refused(InvalidType, call)
        for value in others(Library):
            self.refused(InvalidLibrary, TWO.refusing, value, None)


class Changing(Case):
    def test_upper(self):
        for reach, truths in room_data(60):
            room = Room(reach, truths)
            for world in range(len(reach)):
                upper = room.upper(world)
                kept = reach[world]
                self.assertEqual([[kept[other] for other in row] for row in upper.reach],
                                 [list(reach[one]) for one in kept])
                self.assertEqual(upper.truths, tuple(truths[one] for one in kept))
                for wanted in sample_types(8):
                    self.assertEqual([kept[one] for one in upper.bearing(wanted)],
                                     [one for one in room.bearing(wanted) if one in kept])

    def test_beside(self):
        data = room_data(25)
        for one in data:
            for other in data:
                both = Room(*one).beside(Room(*other))
                many = len(one[0])
                moved = tuple(tuple(world + many for world in row) for row in other[0])
                self.assertTrue(same([both.reach, both.truths], [one[0] + moved, one[1] + other[1]]))

    def test_beside_refuses(self):
        for value in others(Room):
            self.refused(InvalidOperation, TWO.beside, value)
        flat = Room(tuple((world,) for world in range(58)), ((),) * 58)
        both = flat.beside(TWO)
        self.assertEqual([len(both), both.reach[58:]], [60, ((58, 59), (59,))])
        for other in [Room(((0,),), ((),)), TWO, both]:
            self.assertTrue(same(self.refused(TooMany, both.beside, other).limit, 60))
            self.assertTrue(same(self.refused(TooMany, other.beside, both).limit, 60))

    def test_classes_and_merged(self):
        for reach, truths in room_data(150) + room_data(60, seed=6):
            room = Room(reach, truths)
            pairs = alike_pairs(reach, truths)
            worlds = range(len(reach))
            classes = {tuple(other for other in worlds if (one, other) in pairs) for one in worlds}
            self.assertTrue(same(room.classes(), tuple(sorted(classes))))
            merged = room.merged()
            due = [tuple(at for at, row in enumerate(sorted(classes))
                         if any(up in row for world in own for up in reach[world])) for own in sorted(classes)]
            self.assertTrue(same(merged.reach, tuple(due)))
            self.assertEqual(merged.truths, tuple(truths[row[0]] for row in sorted(classes)))
            self.assertEqual(merged.merged(), merged)
            for wanted in sample_types(8):
                borne = room.bearing(wanted)
                self.assertEqual(merged.bearing(wanted), tuple(at for at, row in enumerate(sorted(classes))
                                                               if row[0] in borne))

    def test_a_chain_of_alike_worlds_is_merged(self):
        room = Room(tuple(tuple(range(world, 60)) for world in range(60)), ((),) * 30 + (("a",),) * 30)
        self.assertEqual(room.merged(), TWO)
        self.assertEqual(room.classes(), (tuple(range(30)), tuple(range(30, 60))))
        steps = Room(((0, 1, 2), (1,), (2,)), ((), ("a",), ()))
        self.assertEqual(steps.classes(), ((0,), (1,), (2,)))

    def test_renamed(self):
        room = Room(((0, 1), (1,)), (("a",), ("a", "b")))
        self.assertEqual(room.renamed({"a": "z", "b": "c"}).truths, (("z",), ("c", "z")))
        self.assertEqual(room.renamed(names={"b": "a", "a": "b"}).truths, (("b",), ("a", "b")))
        self.assertEqual(Room(((0,),), ((),)).renamed({}), Room(((0,),), ((),)))
        wrong = all_values() + [{"a": "z"}, {"a": "z", "b": "z"}, {"a": "z", "b": "y", "c": "x"}, {"a": "z", "c": "y"},
                                {"a": "z", "b": "B"}, {"a": "z", "b": None}, {"a": ["z"], "b": "y"}, {},
                                {"a": "z", 1: "y"}, [("a", "z"), ("b", "y")]]
        for names in wrong:
            self.refused(InvalidOperation, room.renamed, names)

    def test_with_atom(self):
        for reach, truths in room_data(40):
            room = Room(reach, truths)
            for world, word in itertools.product(range(len(reach)), ["a", "b", "c"]):
                due = tuple(tuple(sorted(set(truths[other]) | {word})) if other in reach[world] else truths[other]
                            for other in range(len(reach)))
                self.assertTrue(same([room.with_atom(world, word).reach, room.with_atom(world, word).truths],
                                     [reach, due]))
        for value in not_words():
            self.refused(InvalidOperation, TWO.with_atom, 0, value)


def scopes_due(library, goal):
    """The scopes, as sets of trees: added to until nothing changes."""
    first = first_of(library, goal)[0]
    found = {first}
    while True:
        more = {scope | frozenset(inner[0]) for scope in found for kind in scope for inner in kind[0]}
        if more <= found or len(found) > 60:
            return found
        found |= more


class Scopes(Case):
    def goals(self):
        return sample_goals() + random_goals(31, 60) + random_goals(32, 20, parts=6, places=9, order=4)

    def test_scopes(self):
        for library, goal in self.goals():
            due = scopes_due(library, goal)
            if len(due) > 60:
                for call in [scopes_of, scope_room]:
                    self.assertTrue(same(self.refused(TooMany, call, library, goal).limit, 60))
            else:
                named = tuple(sorted(tuple(sorted(text_of(kind) for kind in scope)) for scope in due))
                self.assertTrue(same(scopes_of(library, goal), named))
                self.judge_room(library, goal, due, named)

    def judge_room(self, library, goal, due, named):
        room = scope_room(library, goal)
        self.assertEqual(len(room), len(named))
        atoms = {word for name in library for word in library[name].atoms} | set(goal.atoms)
        for scope in due:
            at = named.index(tuple(sorted(text_of(kind) for kind in scope)))
            self.assertEqual(room.reach[at], tuple(place for place, other in enumerate(named)
                                                   if set(other) >= set(named[at])))
            self.assertEqual(set(room.truths[at]), {word for word in atoms if height((scope, word), 60)})
            for kind in scope:
                self.assertIs(room.bears(at, Type.read(text_of(kind))), True)
                for inner in kind[0]:
                    built = height((scope | frozenset(inner[0]), inner[1]), 60)
                    self.assertIs(room.bears(at, Type.read(text_of(inner))), built)
        own = named.index(question_of(library, goal)[0])
        self.assertIs(room.bears(own, goal), builds(library, goal))

    def test_sixty_scopes_and_more(self):
        for many in range(4, 8):
            library = wide(many)
            if many < 6:
                self.assertEqual(len(scopes_of(library, Q)), 2 ** many)
                self.assertEqual(len(scope_room(library, Q)), 2 ** many)
            else:
                self.assertTrue(same(self.refused(TooMany, scopes_of, library, Q).limit, 60))
                self.assertTrue(same(self.refused(TooMany, scope_room, library, Q).limit, 60))
        # Three scopes by each of the first two arguments, as one comes behind the other, and so on: 3 * 5 * 4 = 60.
        sixty = Library.read("s : (((a -> q) -> q) -> q) -> (((b -> q) -> (c -> q) -> q) -> q) -> q",
                             "t : (d -> q) -> (e -> q) -> q")
        self.assertEqual([len(scopes_due(sixty, Q)), len(scopes_of(sixty, Q)), len(scope_room(sixty, Q))], [60] * 3)
        more = Library.read("s : (((a -> q) -> q) -> q) -> (((b -> q) -> (c -> q) -> q) -> q) -> q",
                            "t : ((f -> d -> q) -> q) -> q", "u : (g -> q) -> q", "v : (((h -> q) -> q) -> q) -> q")
        self.assertGreater(len(scopes_due(more, Q)), 60)
        self.assertEqual(self.refused(TooMany, scopes_of, more, Q).limit, 60)

    def test_errors(self):
        for call in [scopes_of, scope_room, refusal, lambda *told: is_refusal(*told, TWO)]:
            for value in others(Library):
                self.refused(InvalidLibrary, call, value, None)
            for value in others(Type):
                self.refused(InvalidType, call, NAT, value)
        for value in others(Room):
            self.refused(InvalidLibrary, is_refusal, None, None, value)
            self.refused(InvalidType, is_refusal, NAT, None, value)
        # Many questions are no matter here, as long as there are not many scopes.
        self.assertEqual(self.refused(TooMany, scope_room, JUST, Q).limit, 60)


class Refusals(Case):
    def test_a_goal_has_a_program_or_a_room(self):
        goals = sample_goals() + random_goals(41, 150) + random_goals(42, 100, parts=8, places=10, order=4)
        many = 0
        for library, goal in goals:
            if builds(library, goal):
                self.refused(InvalidOperation, refusal, library, goal)
                for reach, truths in room_data(5):
                    self.assertIs(is_refusal(library, goal, Room(reach, truths)), False)
            else:
                many += 1
                room = refusal(library, goal)
                self.assertEqual(room.__class__, Room)
                self.assertEqual(programs_upto(library, goal, 4), [])
                due = [world for world in range(len(room))
                       if all(is_borne(room.reach, room.truths, world, tree(library[name])) for name in library)
                       and not is_borne(room.reach, room.truths, world, tree(goal))]
                self.assertTrue(due)
                self.assertIs(is_refusal(library, goal, room), True)
        self.assertGreater(many, 60)

    def test_types_that_no_room_with_one_world_refuses(self):
        """[0.23]: what is borne in all rooms with one world can still have no program."""
        self.assertIs(builds(Library(), PEIRCE), False)
        for truths in [(), ("a",), ("b",), ("a", "b")]:
            self.assertIs(is_refusal(Library(), PEIRCE, Room(((0,),), (truths,))), False)
        self.assertGreater(len(refusal(Library(), PEIRCE)), 1)

    def test_many_scopes_and_questions(self):
        self.assertIs(is_refusal(JUST, Q, refusal(JUST, Q)), True)
        self.assertIs(is_refusal(wide(10), Q, refusal(wide(10), Q)), True)
        self.assertTrue(same(self.refused(TooMany, refusal, wide(11), Q).limit, 2000))
        self.assertIs(is_refusal(wide(10), Q, TWO), False)

    def test_rooms_that_are_too_large(self):
        """With a lower limit, as what needs more than sixty worlds is larger than a test can look through."""
        self.assertEqual(len(refusal(Library(), PEIRCE)), 2)
        with mock.patch.object(rooms, "MAX_WORLDS", 2):
            self.assertEqual(len(refusal(Library(), PEIRCE)), 2)
        with mock.patch.object(rooms, "MAX_WORLDS", 1):
            self.assertEqual(self.refused(TooMany, refusal, Library(), PEIRCE).limit, 1)
            self.assertEqual(len(refusal(PIPE, Type.plain("c"))), 1)
        library, goal = Library.read("f : ((a -> a) -> c) -> a", "g : ((a -> a) -> c) -> (c -> c) -> (a -> c) -> a",
                                     "h : b"), Type.read("(b -> b -> b) -> a")
        for most in [60, 2]:
            with mock.patch.object(rooms, "MAX_WORLDS", most):
                found = refusal(library, goal)
                self.assertIs(is_refusal(library, goal, found), True)
                self.assertLessEqual(len(found), most)

    def test_other_values_are_no_refusals(self):
        for value in others(Room) + [(TWO.reach, TWO.truths)]:
            self.assertIs(is_refusal(Library(), PEIRCE, value), False)
        self.assertIs(is_refusal(library=PIPE, goal=Type.plain("c"), value=Room(((0,),), ((),))), True)
        self.assertIs(is_refusal(PIPE, Type.plain("c"), Room(((0,),), (("c",),))), False)
        self.assertIs(is_refusal(PIPE, Type.plain("c"), Room(((0,),), (("a",),))), False)

    def test_what_has_a_program_is_borne_wherever_the_parts_are(self):
        for library, goal in sample_goals():
            if builds(library, goal):
                for reach, truths in room_data(40, seed=8):
                    self.assertEqual(Room(reach, truths).refusing(library, goal), ())


class Unchanged(Case):
    def test_nothing_is_changed(self):
        names = {"a": "b"}
        kept = copy.deepcopy(names)
        room = Room(((0, 1), (1,)), ((), ("a",)))
        room.renamed(names)
        room.with_atom(0, "b")
        room.beside(room)
        room.upper(1)
        room.merged()
        self.assertEqual([names, room], [kept, TWO])


if __name__ == "__main__":
    unittest.main()
