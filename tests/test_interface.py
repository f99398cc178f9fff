"""The interface of the document: its names, where they are defined, their arguments, and what holds for all of them."""

import inspect
import unittest
from importlib import import_module

from afterwise import errors
from afterwise.errors import (
    AfterError, BadAsk, BadAsks, BadBook, BadCounts, BadCourse, BadFactors, BadGate, BadHand, BadKind, BadLine, BadMachine,
    BadMany, BadRow, BadSight, BadState, BadStates, BadStore, BadView, Unlike,
)
from afterwise.gates import Gate
from afterwise.hands import Hand
from afterwise.learner import Learner
from afterwise.live import LiveStore
from afterwise.machines import Machine
from afterwise.stores import Store
from tests.helpers import caught, example_machine, example_store

EXAMPLE = example_store()
LENGTH = Machine("ab", 0, (((0, 1), (0, 1)),))
WIDE = Gate.wide("ab")

FUNCTIONS = """
plain: is_asks(thing) is_row(asks,thing) ordered(asks,rows)
courses: hindsight(store,row) best_course(store,row) best_courses(store,row) work(store,row) paid(store,row,course)
courses: levels(store,row) judge_levels(store,row,levels,amount)
standings: standings(store)
machines: least_machine(teller) parting_row(teller,one,other)
likeness: alike(one,other)
claims: claim(tellers,factors,*,counts,gate) worth(tellers,factors,row,*,counts)
claims: judge_heights(tellers,factors,most,heights,*,counts,gate) judge_ring(tellers,factors,stem,ring,*,counts,gate)
rates: rate(tellers,factors,*,counts,gate) judge_rate(tellers,factors,top,heights,*,counts,gate)
factors: factor(one,other)
distances: distances(teller) farthest(teller,one,other)
extras: extra(teller,one,other)
rowkinds: rows_alike(teller,one,other)
powers: powers(teller,row)
forgetting: forgetting(teller)
views: columns(teller) closure(teller,view) views(teller)
great: great_store(teller) is_hindsight(teller)
folds: folds(teller,store) judge_fold(teller,store,fold)
fewest: fewest(teller)
parts: part_of(store,states) needless(store) least_parts(store)
leeways: leeway(store,ask,one,other)
settled: possible_states(store,row,*,later) sure_states(store,row,*,later)
late: best_hand(store,sight,*,gate)
latejudges: judge_table(store,sight,rest,begin,table,*,gate) judge_rungs(store,sight,rest,rungs,*,gate)
latejudges: judge_climb(store,sight,number,climb,*,gate)
telling: telling_rows(teller,many)
joins: summed(one,other) backwards(store) put_for(store,asks,rows) behind(store,row) ahead(store,row)
storelines: read_store(lines) write_store(store)
"""
CLASSES = """
stores: Store(asks,begins,costs,ends) price(ask,one,other) __len__ __eq__ __add__ __invert__
machines: Machine(asks,first,steps) __call__(row) kind_of(row) sum_from(kind,row) least() __len__ __iter__ __eq__
gates: Gate(asks,steps) wide(asks) place_of(row) __contains__ __len__ __eq__
hands: Hand(asks,states,moves) course(row) pays(store) __len__ __eq__
rowkinds: RowKinds(teller) number_of(row) normal(row) __getitem__ __contains__ __len__ __iter__
learner: Learner(asks,many) wanted asked learnt tell(amount)
live: LiveStore(store) as_store titles verdicts set_price(ask,one,other,price) set_begin(state,price) set_end(state,price)
live: LiveStore(store) watch(title,teller) drop(title) undo() redo() trial() tried(deeds) copy()
standings: Standings __len__ __iter__
powers: Powers tells(times)
likeness: Likeness __bool__
claims: Claim __bool__
factors: Factor __bool__
rowkinds: RowLikeness __bool__
forgetting: Forgetting __bool__
great: Hindsight __bool__
folds: Fold __bool__
late: BestHand __bool__
rates: Rate
extras: Extra
fewest: Fewest
"""
ATTRIBUTES = {
    "Store": "asks begins costs ends", "Machine": "asks first steps rows", "Gate": "asks steps", "Hand": "asks states moves",
    "RowKinds": "rows follow", "Learner": "asks many", "Standings": "rows lots steps", "Likeness": "holds row first second",
    "Claim": "holds most row heights stem ring gain", "Rate": "top stem ring heights", "Factor": "holds top most stem ring",
    "Extra": "more before behind", "RowLikeness": "holds more first second", "Powers": "begin period more",
    "Forgetting": "holds row depth pairs", "Hindsight": "holds store one other stem ring", "Fold": "holds fold row first second",
    "Fewest": "number views store", "BestHand": "holds rest begin table rungs number climb",
}


def told_names(text):
    """The module and each word of it from lines as above."""
    for line in text.strip().split("\n"):
        module, _, rest = line.partition(": ")
        for word in rest.split(" "):
            yield import_module("afterwise." + module), word


def parameters(function):
    """The names of the parameters, without an object's own, with a star ahead of those that are passed by their names."""
    found = []
    for name, parameter in inspect.signature(function).parameters.items():
        if parameter.kind == parameter.KEYWORD_ONLY and "*" not in found:
            found.append("*")
        if name not in ("self", "cls"):
            found.append(name)
    return found


class NameTests(unittest.TestCase):
    def test_functions(self):
        for module, word in told_names(FUNCTIONS):
            name, _, rest = word.rstrip(")").partition("(")
            function = getattr(module, name)
            self.assertTrue(inspect.isfunction(function))
            self.assertEqual(function.__module__, module.__name__)
            self.assertEqual(parameters(function), rest.split(","), name)
            for parameter in inspect.signature(function).parameters.values():
                if parameter.kind == parameter.KEYWORD_ONLY:
                    self.assertEqual(parameter.default, "" if parameter.name == "later" else None)
                else:
                    self.assertIs(parameter.default, parameter.empty)

    def test_classes_and_their_methods(self):
        for line in CLASSES.strip().split("\n"):
            words = list(told_names(line))
            module, first = words[0]
            name, _, rest = first.rstrip(")").partition("(")
            kind = getattr(module, name)
            self.assertTrue(inspect.isclass(kind))
            self.assertEqual(kind.__module__, module.__name__)
            if rest:
                self.assertEqual(parameters(kind.__init__), rest.split(","))
            for _, word in words[1:]:
                method, sign, rest = word.rstrip(")").partition("(")
                self.assertIn(method, vars(kind), name)
                if sign:
                    told = [item for item in rest.split(",") if item]
                    self.assertEqual(parameters(getattr(kind, method)), told)
                elif not method.startswith("__"):
                    self.assertEqual(isinstance(vars(kind)[method], property), method != "wide")
        self.assertIsInstance(vars(Gate)["wide"], classmethod)

    def test_errors(self):
        under = {"WrongThing": "thing", "WrongItem": "number"}
        told = {
            "thing": "BadAsks BadRow BadAsk BadState BadStates BadPrice BadCourse BadKind BadFactors BadCounts BadTimes BadView"
                     " BadSight BadMany BadAmount BadBook BadTitle",
            "number": "BadMachine BadGate BadHand BadDeed",
        }
        for parent, word in under.items():
            self.assertIs(getattr(errors, parent).__base__, AfterError)
            for name in told[word].split(" "):
                kind = getattr(errors, name)
                self.assertIs(kind.__base__, getattr(errors, parent))
                self.assertEqual(getattr(kind(7), word), 7)
                self.assertEqual(getattr(kind(**{word: 7}), word), 7)
        for name, words in (
            ("BadStore", "part"), ("Unlike", "word"), ("TooMany", "word"), ("Below", ""), ("NotHindsight", "one other"),
            ("TooFew", "number"), ("NothingWanted", ""), ("BadLine", "line word"), ("Twice", "title"), ("Unknown", "title"),
            ("NoDeed", "word"),
        ):
            kind = getattr(errors, name)
            self.assertIs(kind.__base__, AfterError)
            error = kind(**{word: number for number, word in enumerate(words.split())})
            for number, word in enumerate(words.split()):
                self.assertEqual(getattr(error, word), number)
        self.assertIs(AfterError.__base__, ValueError)


def objects():
    """An object of each class that has attributes."""
    from afterwise.claims import claim
    from afterwise.extras import extra
    from afterwise.factors import factor
    from afterwise.fewest import fewest
    from afterwise.folds import folds
    from afterwise.forgetting import forgetting
    from afterwise.great import is_hindsight
    from afterwise.late import best_hand
    from afterwise.likeness import alike
    from afterwise.powers import powers
    from afterwise.rates import rate
    from afterwise.rowkinds import RowKinds, rows_alike
    from afterwise.standings import standings
    endless = Machine("ab", 0, (((0, 1), (1, 0)), ((1, 0), (1, 2))))
    far = Store("ab", (0, 9), (((1, 9), (10, 0)), ((0, 10), (9, 1))), (0, 0))
    return [
        EXAMPLE, LENGTH, WIDE, Hand("ab", (0,), ((0, 0),)), RowKinds(EXAMPLE), Learner("ab", 2), standings(EXAMPLE),
        alike(EXAMPLE, EXAMPLE), alike(EXAMPLE, LENGTH), claim((EXAMPLE,), (1,)), claim((EXAMPLE,), (-1,)), rate((EXAMPLE,), (1,)),
        factor(EXAMPLE, EXAMPLE), factor(EXAMPLE, Store("ab", (0,), (((0,),),) * 2, (0,))), extra(EXAMPLE, "a", "b"),
        rows_alike(EXAMPLE, "a", "b"), rows_alike(EXAMPLE, "a", "a"), powers(EXAMPLE, "a"), forgetting(EXAMPLE),
        forgetting(Machine("a", 0, (((1, 0),), ((0, 1),)))), is_hindsight(EXAMPLE), is_hindsight(endless), folds(EXAMPLE, EXAMPLE),
        folds(EXAMPLE, far), fewest(EXAMPLE), best_hand(EXAMPLE, 0), best_hand(far, 0),
    ]


class AttributeTests(unittest.TestCase):
    def test_attributes_and_truth(self):
        seen = set()
        for thing in objects():
            name = thing.__class__.__name__
            seen.add(name)
            for word in ATTRIBUTES[name].split(" "):
                self.assertIn(word, vars(thing), name)
            if "holds" in vars(thing):
                self.assertIn(thing.holds, (True, False))
                self.assertIs(bool(thing), thing.holds)
        self.assertEqual(seen, set(ATTRIBUTES))

    def test_equal_only_to_things_of_their_kind(self):
        for thing in (EXAMPLE, LENGTH, WIDE, Hand("ab", (0,), ((0, 0),))):
            for other in (None, 0, "ab", (), EXAMPLE, LENGTH, WIDE):
                self.assertIs(thing == other, thing is other)
                self.assertIs(thing != other, thing is not other)


def call_of(path, **arguments):
    """The result of a function of a module, with all arguments passed by their names."""
    module, _, name = path.partition(".")
    return getattr(import_module("afterwise." + module), name)(**arguments)


def seen_of(thing):
    """What can be compared of a result: its attributes, whatever its class."""
    if hasattr(thing, "__dict__") and not isinstance(thing, type):
        return {name: seen_of(item) for name, item in vars(thing).items()}
    if isinstance(thing, tuple):
        return tuple(seen_of(item) for item in thing)
    if isinstance(thing, list):
        return [seen_of(item) for item in thing]
    return thing


def as_lists(thing):
    """The thing with lists in the place of tuples, at any depth."""
    return [as_lists(item) for item in thing] if isinstance(thing, tuple) else thing


# Calls with arguments that have tuples in them.
CALLS = (
    ("plain.ordered", {"asks": "ab", "rows": ("b", "a", "", "b")}),
    ("stores.Store", {"asks": "ab", "begins": (0, 1), "costs": (((0, 3), (1, 2)), ((2, 1), (3, 0))), "ends": (0, 0)}),
    ("machines.Machine", {"asks": "ab", "first": 0, "steps": (((0, 0), (1, 1)), ((0, 1), (1, 0)))}),
    ("gates.Gate", {"asks": "ab", "steps": ((0, None), (1, 0))}),
    ("hands.Hand", {"asks": "ab", "states": (0, 1), "moves": ((0, 1), (0, 1))}),
    ("courses.paid", {"store": EXAMPLE, "row": "ab", "course": (0, 0, 1)}),
    ("courses.judge_levels", {"store": EXAMPLE, "row": "a", "levels": ((0, 1), (0, 1)), "amount": 0}),
    ("claims.claim", {"tellers": (EXAMPLE, LENGTH), "factors": (1, -1), "counts": (0, -1), "gate": WIDE}),
    ("claims.worth", {"tellers": (EXAMPLE, LENGTH), "factors": (1, -1), "row": "ab", "counts": (0, -1)}),
    ("claims.judge_heights", {"tellers": (EXAMPLE,), "factors": (1,), "most": 1, "heights": (((0, 0), 1), ((1, 0), 0)),
                              "counts": (-2, 0), "gate": None}),
    ("claims.judge_ring", {"tellers": (EXAMPLE,), "factors": (2,), "stem": "", "ring": "ba", "counts": (-1, 0), "gate": None}),
    ("rates.rate", {"tellers": (EXAMPLE,), "factors": (3,), "counts": (0, -1), "gate": None}),
    ("rates.judge_rate", {"tellers": (EXAMPLE,), "factors": (3,), "top": (5, 2), "heights": (((0, 0), 0), ((1, 0), 1)),
                          "counts": (0, -1), "gate": WIDE}),
    ("views.closure", {"teller": EXAMPLE, "view": (3, 1)}),
    ("folds.judge_fold", {"teller": EXAMPLE, "store": EXAMPLE, "fold": (((0, 1), 0), ((1, 0), 0))}),
    ("parts.part_of", {"store": EXAMPLE, "states": (0, 1)}),
    ("latejudges.judge_table", {"store": EXAMPLE, "sight": 0, "rest": 0, "begin": 0, "gate": None,
                                "table": (((0, 0, "", 0), 0, (0, 1)), ((1, 1, "", 0), 0, (0, 1)))}),
    ("latejudges.judge_rungs", {"store": EXAMPLE, "sight": 0, "rest": 0, "gate": None,
                                "rungs": (((0, 0, "", 0), 0, 0, ""), ((0, 1, "", 0), 0, 0, ""))}),
    ("latejudges.judge_climb", {"store": EXAMPLE, "sight": 0, "number": 1, "climb": (((0, 0, "", 0), 0, "a"),), "gate": None}),
    ("joins.put_for", {"store": EXAMPLE, "asks": "cd", "rows": ("ab", "b")}),
    ("storelines.read_store", {"lines": ("store a", "begins 0", "cost a 1", "ends 0")}),
)


class ListTests(unittest.TestCase):
    def test_lists_in_the_place_of_tuples(self):
        for path, arguments in CALLS:
            lists = {name: as_lists(thing) for name, thing in arguments.items()}
            before = repr([thing for thing in lists.values() if isinstance(thing, list)])
            right, found = call_of(path, **arguments), call_of(path, **lists)
            self.assertEqual(seen_of(found), seen_of(right), path)
            # Whatever is told are tuples, and nothing that was passed has changed.
            self.assertNotIn("[", repr(seen_of(found)).replace("[]", ""), path)
            self.assertEqual(repr([thing for thing in lists.values() if isinstance(thing, list)]), before)
        self.assertIs(call_of("courses.judge_levels", **CALLS[6][1]), True)

    def test_what_is_kept_does_not_hang_on_what_was_passed(self):
        for path, arguments in CALLS[1:5]:
            lists = {name: as_lists(thing) for name, thing in arguments.items()}
            found = call_of(path, **lists)
            for thing in lists.values():
                if isinstance(thing, list):
                    thing[0] = None
                    thing.clear()
            self.assertEqual(found, call_of(path, **arguments))

    def test_strings_are_no_tuples(self):
        for path, name, kind in (
            ("plain.ordered", "rows", BadRow), ("stores.Store", "begins", BadStore), ("machines.Machine", "steps", BadMachine),
            ("gates.Gate", "steps", BadGate), ("hands.Hand", "states", BadHand), ("courses.paid", "course", BadCourse),
            ("claims.claim", "factors", BadFactors), ("claims.claim", "counts", BadCounts), ("rates.rate", "factors", BadFactors),
            ("views.closure", "view", BadView), ("parts.part_of", "states", BadStates), ("joins.put_for", "rows", BadBook),
            ("storelines.read_store", "lines", BadLine),
        ):
            arguments = dict(CALLS[[call[0] for call in CALLS].index(path)][1])
            arguments[name] = "ab"
            self.assertIs(type(caught(call_of, path, **arguments)), kind)
        for path, arguments in CALLS:
            if "judge" in path:
                for name in ("levels", "heights", "ring", "top", "fold", "table", "rungs", "climb"):
                    if name in arguments:
                        self.assertIs(call_of(path, **{**arguments, name: "xy"}), False)


class OrderTests(unittest.TestCase):
    """Several wrong arguments at once: the error of the first one, in the order of the parameters, is raised."""

    def check(self, path, kinds, **arguments):
        """All are wrong; each in its turn is then made right."""
        right = arguments.pop("right")
        for name, kind in kinds:
            error = caught(call_of, path, **arguments)
            self.assertIs(type(error), kind, (path, name))
            arguments[name] = right[name]
        call_of(path, **arguments)

    def test_functions(self):
        other = Machine("ac", 0, (((0, 0), (0, 0)),))
        self.check("plain.is_row", (("asks", BadAsks),), asks="ba", thing=None, right={"asks": "ab"})
        self.check("plain.ordered", (("asks", BadAsks), ("rows", BadRow)), asks="ba", rows=(1,), right={"asks": "ab", "rows": ()})
        self.check("stores.Store", (("asks", BadAsks), ("begins", BadStore), ("costs", BadStore), ("ends", BadStore)),
                   asks="i", begins=(), costs=None, ends=(), right={"asks": "a", "begins": (0,), "costs": (((0,),),), "ends": (0,)})
        self.check("courses.paid", (("row", BadRow), ("course", BadCourse)),
                   store=EXAMPLE, row="c", course=(), right={"row": "a", "course": (0, 0)})
        self.check("courses.judge_levels", (("row", BadRow),), store=EXAMPLE, row="c", levels=1, amount=None, right={"row": ""})
        for path in ("machines.parting_row", "distances.farthest"):
            self.check(path, (("one", BadKind), ("other", BadKind)),
                       teller=EXAMPLE, one=2, other=True, right={"one": 0, "other": 1})
        for path in ("extras.extra", "rowkinds.rows_alike"):
            self.check(path, (("one", BadRow), ("other", BadRow)), teller=EXAMPLE, one="c", other=1, right={"one": "", "other": "a"})
        self.check("claims.claim", (("tellers", Unlike), ("factors", BadFactors), ("counts", BadCounts), ("gate", Unlike)),
                   tellers=(EXAMPLE, other), factors=(1,), counts=1, gate=Gate.wide("ac"),
                   right={"tellers": (EXAMPLE, LENGTH), "factors": (1, -1), "counts": None, "gate": None})
        self.check("claims.worth", (("tellers", Unlike), ("factors", BadFactors), ("row", BadRow), ("counts", BadCounts)),
                   tellers=(EXAMPLE, other), factors=(1,), row="c", counts=1,
                   right={"tellers": (EXAMPLE, LENGTH), "factors": (1, -1), "row": "", "counts": (0, 0)})
        self.check("leeways.leeway", (("ask", BadAsk), ("one", BadState), ("other", BadState)),
                   store=EXAMPLE, ask="ab", one=2, other=-1, right={"ask": "a", "one": 0, "other": 1})
        for path in ("settled.possible_states", "settled.sure_states"):
            self.check(path, (("row", BadRow), ("later", BadRow)), store=EXAMPLE, row="c", later=1, right={"row": "", "later": "a"})
        self.check("late.best_hand", (("sight", BadSight), ("gate", Unlike)),
                   store=EXAMPLE, sight=4, gate=Gate.wide("a"), right={"sight": 0, "gate": None})
        self.check("latejudges.judge_climb", (("sight", BadSight), ("gate", Unlike)), store=EXAMPLE, sight=True, number=None,
                   climb=None, gate=Gate.wide("a"), right={"sight": 0, "gate": None})
        self.check("joins.put_for", (("asks", BadAsks), ("rows", BadBook)),
                   store=EXAMPLE, asks="x", rows=("",), right={"asks": "h", "rows": ("ab",)})
        self.check("folds.judge_fold", (("store", Unlike),), teller=EXAMPLE, store=Store("a", (0,), (((0,),),), (0,)), fold=None,
                   right={"store": EXAMPLE})
        self.check("hands.Hand", (("asks", BadAsks), ("states", BadHand), ("moves", BadHand)), asks=None, states=(), moves=((),),
                   right={"asks": "a", "states": (0,), "moves": ((0,),)})
        self.check("learner.Learner", (("asks", BadAsks), ("many", BadMany)), asks="", many=0, right={"asks": "a", "many": 1})

    def test_methods_by_the_names_of_their_arguments(self):
        machine = example_machine()
        self.assertEqual((machine(row="ab"), machine.kind_of(row="b"), machine.sum_from(kind=1, row="a")), (1, 1, 1))
        self.assertEqual((EXAMPLE.price(ask="a", one=0, other=1), WIDE.place_of(row="ab")), (3, 0))
        self.assertIs(type(caught(EXAMPLE.price, ask="c", one=9, other=9)), BadAsk)
        self.assertEqual(caught(EXAMPLE.price, ask="a", one=9, other=8).thing, 9)
        self.assertIs(type(caught(machine.sum_from, kind=9, row="c")), BadKind)
        self.assertIs(type(caught(machine.sum_from, kind=0, row="c")), BadRow)
        self.assertEqual(Gate.wide(asks="ab"), WIDE)
        kinds = call_of("rowkinds.RowKinds", teller=EXAMPLE)
        self.assertEqual((kinds.number_of(row="aa"), kinds.normal(row="aa")), ((kinds.number_of("a")), "a"))
        live = LiveStore(EXAMPLE)
        self.assertEqual(live.tried(deeds=()), ())


if __name__ == "__main__":
    unittest.main()
