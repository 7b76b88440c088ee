import unittest

from sourceforms import errors
from sourceforms.desk import desk as module
from sourceforms.desk.desk import Desk
from sourceforms.errors import InvalidForm, InvalidOperation, InvalidTable, NothingToUndo, Refused, TooMany, UnknownName
from sourceforms.fall.worst import fall_kind
from sourceforms.form.forms import Form, factor_between, line_of
from sourceforms.form.layings import laid
from sourceforms.mirror.klein import power_paper
from sourceforms.power.killers import does_kill
from tests.support import BENT, CUBIC, FOUR, LET, LONG, NO_FORMS, NO_INTEGERS, QUAD, SIX, Case, determinant_of, picker, product_of
from tests.support import some_change, some_form, some_point, whole_form
from tests.test_forms import NO_POINTS, NO_TABLES

NAMES = {**vars(errors), **vars(module), "Form": Form, "QUAD": QUAD, "CUBIC": CUBIC, "FOUR": FOUR, "SIX": SIX, "BENT": BENT}
NO_NAMES = (None, True, 0, 7, "", "A", "aB", "a1", "a ", " a", "a_b", "abcdefghi", "a\n", "\n", ("a",), ["a"], {}, {"a": 1}, (), QUAD, LONG,
            "z" * 3000, "{", "`", "Z")
GOOD = {
    "root": ("root", "f", (1, 0)), "falls": ("falls", "f"), "power": ("power", "f"), "like": ("like", "f", "g"),
    "laid": ("laid", "f", "g", 1, "h"), "kills": ("kills", "f", "g"),
}
NO_PROMISES = (
    None, True, 1, "falls", (), ("falls",), ("falls", "f", "g"), ["falls", "f"], ("Falls", "f"), ("fall", "f"), ("", "f"), (1, "f"),
    ("falls", "F"), ("falls", ""), ("falls", 1), ("falls", None), ("falls", ["f"]), ("falls", ("f",)), ("power",), ("power", "f", "f"),
    ("like", "f"), ("like", "f", "g", "h"), ("like", "f", 1), ("like", 1, "f"), ("kills", "f"), ("kills", "f", "g", "h"),
    ("kills", "f", "abcdefghi"), ("root", "f"), ("root", "f", (1, 0), 1), ("root", (1, 0), "f"), ("root", 1, (1, 0)),
    ("laid", "f", "g", 1), ("laid", "f", "g", "h"), ("laid", "f", "g", "h", 1), ("laid", "f", "g", -1, "h"), ("laid", "f", "g", 41, "h"),
    ("laid", "f", "g", True, "h"), ("laid", "f", "g", LONG, "h"), ("laid", "f", "g", None, "h"), ("laid", "f", "g", 1, "H"),
    ("laid", "f", "g", 1, "h", "h"), (("falls", "f"),), {"falls": "f"}, (["falls"], "f"), ({}, "f"), QUAD,
)
PROMISES = tuple(("root", "f", value) for value in NO_POINTS)


def shown(desk):
    """All that a desk tells of itself."""
    return ({name: desk.form(name).entries for name in desk.names}, {label: desk.promised(label) for label in desk.labels},
            desk.deeds, len(desk), str(desk))


def is_kept(promise, forms):
    """Whether a promise is true, by what the other stages tell."""
    names = {"root": promise[1:2], "laid": promise[1:3] + promise[4:]}.get(promise[0], promise[1:])
    if any(name not in forms for name in names):
        return False
    word, f, last = promise[0], forms[names[0]], forms[names[-1]]
    if word == "root":
        return not f.is_zero and sum(c * promise[2][0] ** (f.degree - k) * promise[2][1] ** k for k, c in enumerate(f)) == 0
    if word == "falls":
        return not f.is_zero and f.degree > 0 and fall_kind(f) == "falls"
    if word == "power":
        return not f.is_zero and f.degree > 0 and power_paper(f)[0] == "power"
    if word == "like":
        return factor_between(f, last) is not None
    if word == "kills":
        return f.degree <= last.degree and does_kill(f, last)
    g, times = forms[names[1]], promise[3]
    if times > min(f.degree, g.degree) or f.degree + g.degree - 2 * times > 40:
        return False
    return factor_between(laid(f, g, times), last) is not None


class Plain(Case, unittest.TestCase):
    def test_empty(self):
        desk = Desk()
        self.assertEqual((desk.names, desk.labels, desk.deeds, len(desk), str(desk)), ((), (), 0, 0, "desk of 0 forms, 0 promises"))
        self.assertEqual((module.MAX_KEPT, module.MAX_PROMISES), (12, 12))
        self.assertEqual((desk == Desk(), desk != Desk(), desk == 1, desk == None), (True, False, False, False))  # noqa: E711
        self.assertEqual((desk.undo(times=0), desk.redo(times=0)), (0, 0))
        self.assertEqual(desk.change(((2, 0), (0, 1))), 1)
        self.assertEqual(desk.during(lambda same: same is desk), True)
        with self.assertRaises(TypeError):
            list(desk)
        with self.assertRaises(TypeError):
            desk + desk

    def test_keep_and_drop(self):
        desk = Desk()
        self.assertEqual([desk.keep("zz", QUAD), desk.keep("a", CUBIC), desk.keep("abcdefgh", SIX), desk.keep("a", FOUR)], [1, 2, 3, 4])
        self.assertEqual((desk.names, desk.form("a"), len(desk)), (("a", "abcdefgh", "zz"), FOUR, 3))
        self.assertEqual([name in desk for name in ("a", "zz", "b", "", None, 1, ["a"], ("a",), {}, QUAD)], [True, True] + [False] * 8)
        self.assertEqual((desk.drop("a"), desk.names, "a" in desk), (5, ("abcdefgh", "zz"), False))
        self.assertEqual(desk.keep("zz", QUAD), 6)
        self.assertEqual(str(desk), "desk of 2 forms, 0 promises")

    def test_lay(self):
        desk = Desk()
        desk.keep("f", CUBIC)
        desk.keep("g", FOUR)
        for times in range(4):
            desk.lay("h", "f", "g", times)
            self.assertEqual(desk.form("h"), laid(CUBIC, FOUR, times))
        desk.lay("f", "f", "f", 0)
        self.assertEqual((desk.form("f"), desk.deeds), (CUBIC * CUBIC, 7))

    def test_change(self):
        pick = picker(931)
        for _ in range(20):
            desk, forms = Desk(), {}
            for name in ("a", "b", "c"):
                forms[name] = some_form(pick, pick.randint(0, 6))
                desk.keep(name, forms[name])
            table = some_change(pick)
            self.assertEqual(desk.change(table), 4)
            self.assertEqual({name: desk.form(name) for name in desk.names}, {name: form.changed(table) for name, form in forms.items()})

    def test_forms_are_not_shared(self):
        desk = Desk()
        desk.keep("f", QUAD)
        other = desk.twin()
        other.keep("f", CUBIC)
        other.keep("g", CUBIC)
        self.assertEqual((desk.form("f"), desk.names, desk.deeds, other.deeds), (QUAD, ("f",), 1, 3))
        self.assertNotEqual(desk, other)

    def test_equal(self):
        one, other = Desk(), Desk()
        one.keep("f", QUAD)
        self.assertNotEqual(one, other)
        other.keep("g", CUBIC)
        other.keep("f", QUAD)
        other.drop("g")
        self.assertEqual(one, other)
        self.assertNotEqual(one.deeds, other.deeds)
        one.promise("a", ("like", "f", "f"))
        self.assertNotEqual(one, other)
        other.promise("b", ("like", "f", "f"))
        self.assertNotEqual(one, other)
        other.let_go("b")
        other.promise("a", ("like", "f", "f"))
        self.assertEqual(one, other)
        self.assertFalse(one == (one.names, one.labels) or one == "desk" or one == QUAD)


class Promises(Case, unittest.TestCase):
    def made(self, **forms):
        desk = Desk()
        for name, form in forms.items():
            desk.keep(name, form)
        return desk

    def test_each_word(self):
        """Each word with forms for which it is true, and with such for which it is not."""
        square, cube = Form((1, 2, 1)), Form((1, 3, 3, 1))
        cases = (
            (("root", "f", (1, -1)), {"f": BENT}, {"f": QUAD}), (("root", "f", (1, 0)), {"f": Form((0, 1))}, {"f": Form((0, 0))}),
            (("root", "f", (0, 1)), {"f": Form((1, 0))}, {"f": Form((5,))}),
            (("falls", "f"), {"f": BENT}, {"f": QUAD}), (("falls", "f"), {"f": Form((1, 2))}, {"f": Form((0, 0, 0))}),
            (("falls", "f"), {"f": cube}, {"f": Form((3,))}), (("falls", "f"), {"f": cube}, {"f": square * Form((1, 0, 1))}),
            (("power", "f"), {"f": cube * -5}, {"f": BENT}), (("power", "f"), {"f": Form((0, 0, 7))}, {"f": Form((0, 0, 0))}),
            (("power", "f"), {"f": Form((4, 6))}, {"f": Form((4,))}),
            (("like", "f", "g"), {"f": QUAD, "g": QUAD * -3}, {"f": QUAD, "g": Form((1, 0, 2))}),
            (("like", "f", "g"), {"f": Form((0, 0)), "g": Form((0, 0))}, {"f": Form((0, 0)), "g": Form((0, 0, 0))}),
            (("like", "f", "g"), {"f": Form((2,)), "g": Form((3,))}, {"f": Form((2, 0)), "g": Form((0, 0))}),
            (("laid", "f", "g", 2, "h"), {"f": CUBIC, "g": CUBIC, "h": Form((1, -1, 1))}, {"f": CUBIC, "g": CUBIC, "h": Form((1, 1, 1))}),
            (("laid", "f", "g", 1, "h"), {"f": CUBIC, "g": CUBIC, "h": Form((0,) * 5)}, {"f": CUBIC, "g": CUBIC, "h": Form((0,) * 4)}),
            (("laid", "f", "g", 3, "h"), {"f": CUBIC, "g": FOUR, "h": laid(CUBIC, FOUR, 3)}, {"f": CUBIC, "g": QUAD, "h": Form((1,))}),
            (("laid", "f", "g", 0, "h"), {"f": Form((1,) * 21), "g": Form((1,) * 21), "h": Form((1,) * 21) * Form((1,) * 21)},
             {"f": Form((1,) * 21), "g": Form((1,) * 22), "h": Form((0,) * 41)}),
            (("kills", "f", "g"), {"f": Form((1, 1, 1)), "g": CUBIC}, {"f": QUAD, "g": CUBIC}),
            (("kills", "f", "g"), {"f": Form((0, 0)), "g": CUBIC}, {"f": FOUR, "g": CUBIC}),
            (("kills", "f", "g"), {"f": Form((1, 0)), "g": Form((0, 1))}, {"f": Form((1, 0)), "g": Form((1,))}),
            (("kills", "f", "g"), {"f": Form((7,)), "g": Form((0,))}, {"f": Form((7,)), "g": Form((1,))}))
        words = set()
        for promise, good, bad in cases:
            words.add(promise[0])
            desk = self.made(**good)
            self.assertEqual(desk.promise("p", promise), len(good) + 1)
            self.assertEqual((desk.promised("p"), desk.labels, is_kept(promise, good)), (promise, ("p",), True))
            other = self.made(**bad)
            before = shown(other)
            self.assertFalse(is_kept(promise, bad))
            self.refuses(Refused, {"reason": ("promise", "p")}, other.promise, "p", promise)
            self.assertEqual(shown(other), before)
        self.assertEqual(words, set(GOOD))

    def test_broken_by_deeds(self):
        desk = self.made(f=CUBIC, g=Form((1, 1, 1)), k=QUAD)
        desk.lay("h", "f", "f", 2)
        desk.promise("b", ("laid", "f", "f", 2, "h"))
        desk.promise("a", ("kills", "g", "f"))
        desk.promise("c", ("like", "h", "h"))
        before = shown(desk)
        for call, label in ((lambda: desk.keep("f", BENT), "a"), (lambda: desk.keep("h", QUAD), "b"), (lambda: desk.drop("h"), "b"),
                            (lambda: desk.drop("f"), "a"), (lambda: desk.drop("g"), "a"), (lambda: desk.lay("h", "f", "f", 0), "b"),
                            (lambda: desk.lay("g", "f", "f", 1), "a"), (lambda: desk.change(((1, 1), (0, 1))), "a")):
            self.refuses(Refused, {"reason": ("promise", label)}, call)
            self.assertEqual(shown(desk), before)
        self.assertEqual(desk.let_go("a"), before[2] + 1)
        self.assertEqual(desk.change(((1, 1), (0, 1))), before[2] + 2)
        self.refuses(Refused, {"reason": ("promise", "b")}, desk.keep, "f", BENT)
        self.assertEqual(desk.drop("k"), before[2] + 3)
        self.assertEqual(desk.keep("h", desk.form("h") * -7), before[2] + 4)

    def test_changes_keep_promises(self):
        """The words "falls", "power", "like" and "laid" stay true if all forms are changed by one table."""
        pick = picker(932)
        for _ in range(20):
            line = line_of(some_point(pick))
            f = line * line * line * some_form(pick, 1)
            desk = self.made(f=f, g=f * 3, h=product_of([line] * 4) * 2, k=laid(f, f * 3, 2))
            forms = {name: desk.form(name) for name in desk.names}
            for label, promise in (("a", ("falls", "f")), ("b", ("power", "h")), ("c", ("like", "f", "g")), ("d", ("laid", "f", "g", 2, "k"))):
                if is_kept(promise, forms):
                    desk.promise(label, promise)
            deeds = desk.deeds
            self.assertEqual(desk.change(some_change(pick)), deeds + 1)
        desk = self.made(f=Form((0, 1, 0)))
        desk.promise("a", ("root", "f", (1, 0)))
        self.refuses(Refused, {"reason": ("promise", "a")}, desk.change, ((1, 0), (1, 1)))
        self.assertEqual(desk.change(((1, 1), (0, 1))), 3)

    def test_any_deeds(self):
        """Many drawn deeds, beside a reckoning of what is kept and of what stands."""
        pick = picker(933)
        words = {"done": 0, "refused": 0}
        some = [QUAD, QUAD * 2, CUBIC, FOUR, BENT, Form((1, 2, 1)), Form((0, 0, 0)), Form((3,)), Form((1, 1, 1)), Form((1, -1)), Form((0, 1))]
        for _ in range(60):
            desk, past = Desk(), [({}, {})]
            at = 0
            for _ in range(90):
                forms, promises = dict(past[at][0]), dict(past[at][1])
                kind = pick.choice((0, 0, 0, 1, 2, 3, 4, 4, 4, 4, 4, 4, 5, 6, 7, 7))
                names = [pick.choice("abcd") for _ in range(3)]
                label = pick.choice("xyz")
                if kind == 0:
                    form = pick.choice(some)
                    call, forms[names[0]] = lambda: desk.keep(names[0], form), form
                elif kind == 1 and names[1] in forms and names[2] in forms:
                    one, other = forms[names[1]], forms[names[2]]
                    times = pick.randint(0, min(one.degree, other.degree))
                    if one.degree + other.degree > 12:
                        continue
                    call, forms[names[0]] = lambda: desk.lay(names[0], names[1], names[2], times), laid(one, other, times)
                elif kind == 2 and all(max(map(abs, form)) < 10 ** 20 for form in forms.values()):
                    table = pick.choice((((1, 1), (0, 1)), ((0, 1), (1, 0)), ((2, 1), (1, 1))))
                    call, forms = lambda: desk.change(table), {name: form.changed(table) for name, form in forms.items()}
                elif kind == 3 and names[0] in forms:
                    call = lambda: desk.drop(names[0])  # noqa: E731
                    del forms[names[0]]
                elif kind == 4 and label not in promises and all(name in forms for name in names):
                    promise = pick.choice((("root", names[0], pick.choice(((1, 0), (0, 1), (1, -1)))), ("falls", names[0]), ("power", names[0]),
                                           ("like", *names[:2]), ("laid", *names[:2], pick.randint(0, 3), names[2]), ("kills", *names[:2])))
                    call, promises[label] = lambda: desk.promise(label, promise), promise
                elif kind == 5 and label in promises:
                    call = lambda: desk.let_go(label)  # noqa: E731
                    del promises[label]
                elif kind > 5:
                    steps = pick.choice((0, 1, 1, 2, 5))
                    there = at - steps if kind == 6 else at + steps
                    act = desk.undo if kind == 6 else desk.redo
                    if 0 <= there < len(past):
                        at = there
                        self.assertEqual(act(times=steps), at)
                    else:
                        self.refuses(NothingToUndo, {"steps": steps}, act, times=steps)
                    self.agree(desk, past[at], at)
                    continue
                else:
                    continue
                bad = sorted(key for key, promise in promises.items() if not is_kept(promise, forms))
                if bad:
                    words["refused"] += 1
                    self.refuses(Refused, {"reason": ("promise", bad[0])}, call)
                else:
                    words["done"] += 1
                    past = past[:at + 1] + [(forms, promises)]
                    at += 1
                    self.assertEqual(call(), at)
                self.agree(desk, past[at], at)
        self.assertGreater(min(words.values()), 300)

    def agree(self, desk, state, deeds):
        forms, promises = state
        self.assertEqual(({name: desk.form(name) for name in desk.names}, desk.names), (forms, tuple(sorted(forms))))
        self.assertEqual(({label: desk.promised(label) for label in desk.labels}, desk.labels), (promises, tuple(sorted(promises))))
        self.assertEqual((desk.deeds, len(desk)), (deeds, len(forms)))
        self.assertEqual(str(desk), f"desk of {len(forms)} forms, {len(promises)} promises")


class Past(Case, unittest.TestCase):
    def made(self):
        desk = Desk()
        desk.keep("f", CUBIC)
        desk.lay("h", "f", "f", 2)
        desk.promise("a", ("laid", "f", "f", 2, "h"))
        desk.change(((1, 1), (0, 1)))
        return desk

    def test_steps(self):
        desk = self.made()
        states = [shown(desk)]
        for steps in range(4):
            self.assertEqual(desk.undo(), 3 - steps)
            states.append(shown(desk))
        self.assertEqual(desk.names, ())
        self.assertEqual((desk.redo(times=4), shown(desk)), (4, states[0]))
        self.assertEqual((desk.undo(times=3), shown(desk)), (1, states[3]))
        self.assertEqual((desk.redo(times=2), shown(desk)), (3, states[1]))
        self.assertEqual((desk.undo(times=0), desk.redo(times=0), shown(desk)), (3, 3, states[1]))
        self.refuses(NothingToUndo, {"steps": 2}, desk.redo, times=2)
        self.refuses(NothingToUndo, {"steps": 4}, desk.undo, times=4)
        self.assertEqual(desk.redo(), 4)

    def test_a_deed_behind(self):
        desk = self.made()
        desk.undo(times=2)
        self.refuses(Refused, {"reason": ("promise", "b")}, desk.promise, "b", ("power", "f"))
        self.assertEqual(desk.redo(), 3)
        desk.undo()
        self.assertEqual(desk.keep("f", CUBIC), 3)
        self.refuses(NothingToUndo, {"steps": 1}, desk.redo)
        self.assertEqual((desk.undo(times=3), desk.redo(times=3), desk.form("f")), (0, 3, CUBIC))

    def test_deeds_that_leave_all_as_it_is(self):
        desk = self.made()
        before = shown(desk)[:2]
        self.assertEqual((desk.keep("f", desk.form("f")), desk.change(((1, 0), (0, 1))), shown(desk)[:2]), (5, 6, before))
        self.assertEqual((desk.undo(), desk.undo(), desk.undo(), desk.form("f")), (5, 4, 3, CUBIC))

    def test_during(self):
        desk = self.made()
        desk.undo()
        before, states = shown(desk), []

        def call(given):
            states.append(given is desk)
            given.redo()
            given.let_go("a")
            given.drop("f")
            given.keep("g", SIX)
            given.during(lambda same: same.keep("k", QUAD))
            states.append("k" in given)
            return given.names
        self.assertEqual((desk.during(call), shown(desk), states), (("g", "h"), before, [True, False]))
        self.assertEqual(desk.redo(), 4)
        desk.undo(times=4)
        self.assertEqual((desk.during(lambda same: same.redo(times=2)), desk.deeds), (2, 0))
        self.assertEqual(desk.redo(times=4), 4)

    def test_a_call_that_raises(self):
        desk = self.made()
        before = shown(desk)

        class Odd(Exception):
            pass

        def call(given):
            given.undo(times=3)
            given.keep("g", SIX)
            raise Odd
        with self.assertRaises(Odd):
            desk.during(call)
        self.assertEqual(shown(desk), before)
        self.refuses(UnknownName, {"name": "zz"}, desk.during, lambda same: (same.undo(), same.drop("zz")))
        self.assertEqual(shown(desk), before)

    def test_twins(self):
        desk = self.made()
        desk.undo()
        other = desk.twin()
        self.assertTrue(desk == other and shown(desk) == shown(other))
        self.assertEqual((other.redo(), desk.deeds), (4, 3))
        self.assertEqual((desk.undo(times=3), other.deeds, shown(other)[0] != {}), (0, 4, True))
        self.assertEqual((other.undo(times=4), other.redo(times=4), desk.redo(times=4)), (0, 4, 4))
        kept = []
        desk.during(lambda same: kept.append(same.twin()) or same.let_go("a"))
        self.assertEqual((kept[0] == desk, kept[0].let_go("a"), desk.labels), (True, 5, ("a",)))

    def test_many_deeds(self):
        desk = Desk()
        self.soon(5, lambda: [desk.keep("f", Form((k,))) for k in range(2000)])
        self.assertEqual((desk.undo(times=1999), desk.form("f").entries, desk.redo(times=1999)), (1, (0,), 2000))


class Refusals(Case, unittest.TestCase):
    def full(self):
        desk = Desk()
        for k in range(12):
            desk.keep("f" + "abcdefghijkl"[k], Form((k, 1)))
        desk.keep("fa", CUBIC)
        for k in range(12):
            desk.promise("p" + "abcdefghijkl"[k], ("like", "fb", "fb"))
        return desk

    def refused(self, desk, error, kept, call, *given, **named):
        before = shown(desk)
        self.refuses(error, kept, call, *given, **named)
        self.assertEqual(shown(desk), before)

    def test_names(self):
        desk = self.full()
        for value in NO_NAMES:
            self.refused(desk, InvalidOperation, {}, desk.keep, value, None)
            self.refused(desk, InvalidOperation, {}, desk.lay, value, None, None, None)
            self.refused(desk, InvalidOperation, {}, desk.promise, value, None)
            for call in (desk.drop, desk.let_go, desk.form, desk.promised):
                self.refused(desk, UnknownName, {"name": value}, call, value)
            self.refused(desk, UnknownName, {"name": value}, desk.lay, "fa", value, None, None)
            self.refused(desk, UnknownName, {"name": value}, desk.lay, "fa", "fa", value, None)
            self.assertIs(value in desk, False)
        for name in ("zz", "pa", "f"):
            self.refused(desk, UnknownName, {"name": name}, desk.drop, name)
            self.refused(desk, UnknownName, {"name": name}, desk.form, name)
        for label in ("zz", "fa", "p"):
            self.refused(desk, UnknownName, {"name": label}, desk.let_go, label)
            self.refused(desk, UnknownName, {"name": label}, desk.promised, label)

    def test_keep(self):
        desk = self.full()
        for value in NO_FORMS:
            self.refused(desk, InvalidForm, {}, desk.keep, "fa", value)
            self.refused(desk, InvalidForm, {}, desk.keep, "zz", value)
        long = whole_form((1, LONG))
        self.refused(desk, TooMany, {"limit": 12}, desk.keep, "zz", QUAD)
        self.refused(desk, TooMany, {"limit": 12}, desk.keep, "zz", long)
        self.refused(desk, TooMany, {"limit": 60}, desk.keep, "fa", long)
        self.refused(desk, TooMany, {"limit": 60}, desk.keep, "fb", long)
        self.refused(desk, Refused, {"reason": ("promise", "pa")}, desk.drop, "fb")
        self.assertEqual(desk.keep("fa", whole_form((LET, -LET))), 26)

    def test_lay(self):
        desk = self.full()
        for value in NO_INTEGERS + (-1, 2):
            self.refused(desk, errors.InvalidNumber, {"given": value}, desk.lay, "zz", "fb", "fa", value)
        desk.keep("fc", Form((1,) * 22))
        desk.keep("fd", Form((10 ** 30, 1)))
        desk.keep("fe", Form((10 ** 30, 7)))
        self.refused(desk, TooMany, {"limit": 40}, desk.lay, "zz", "fc", "fc", 0)
        self.refused(desk, TooMany, {"limit": 40}, desk.lay, "fb", "fc", "fc", 0)
        self.refused(desk, TooMany, {"limit": 12}, desk.lay, "zz", "fd", "fe", 0)
        self.refused(desk, TooMany, {"limit": 60}, desk.lay, "fb", "fd", "fe", 0)
        for label in desk.labels[:-1]:
            desk.let_go(label)
        self.refused(desk, Refused, {"reason": ("promise", "pl")}, desk.drop, "fb")
        desk.undo(times=11)
        self.assertEqual(desk.lay("fd", "fc", "fc", 1), 29)

    def test_change(self):
        desk = self.full()
        for value in NO_TABLES + (((0, 0), (0, 0)), ((1, 2), (2, 4)), ((LET, LET), (1, 1))):
            self.refused(desk, InvalidTable, {}, desk.change, value)
            self.assertTrue(value in NO_TABLES or determinant_of(value) == 0)
        self.refused(desk, TooMany, {"limit": 60}, desk.change, ((LET, 0), (0, 1)))
        self.assertEqual(desk.change(((1, 1), (0, 1))), 26)

    def test_promise(self):
        desk = self.full()
        for value in NO_PROMISES:
            self.refused(desk, InvalidOperation, {}, desk.promise, "zz", value)
            self.refused(desk, InvalidOperation, {}, desk.promise, "pa", value)
        for value in PROMISES:
            self.refused(desk, InvalidOperation, {}, desk.promise, "zz", value)
        self.refused(desk, Refused, {"reason": ("label", "pa")}, desk.promise, "pa", ("like", "fa", "fb"))
        self.refused(desk, Refused, {"reason": ("label", "pa")}, desk.promise, "pa", ("like", "zz", "fb"))
        self.refused(desk, TooMany, {"limit": 12}, desk.promise, "zz", ("like", "xx", "fb"))
        self.refused(desk, TooMany, {"limit": 12}, desk.promise, "zz", ("like", "fb", "fb"))
        desk.let_go("pa")
        self.refused(desk, UnknownName, {"name": "xx"}, desk.promise, "zz", ("like", "xx", "yy"))
        self.refused(desk, UnknownName, {"name": "yy"}, desk.promise, "zz", ("laid", "fa", "yy", 40, "xx"))
        self.refused(desk, UnknownName, {"name": "xx"}, desk.promise, "zz", ("laid", "fa", "fb", 40, "xx"))
        self.refused(desk, Refused, {"reason": ("promise", "zz")}, desk.promise, "zz", ("laid", "fa", "fb", 40, "fb"))
        self.assertEqual(desk.promise("zz", ("like", "fb", "fb")), 27)

    def test_steps(self):
        desk = self.full()
        for value in NO_INTEGERS + (-1,):
            self.refused(desk, errors.InvalidNumber, {"given": value}, desk.undo, times=value)
            self.refused(desk, errors.InvalidNumber, {"given": value}, desk.redo, times=value)
        for steps in (26, LET):
            self.refused(desk, NothingToUndo, {"steps": steps}, desk.undo, times=steps)
            self.refused(desk, NothingToUndo, {"steps": steps}, desk.redo, times=steps)
        with self.assertRaises(TypeError):
            desk.undo(1)
        with self.assertRaises(TypeError):
            desk.redo(1)

    def test_greatest(self):
        pick = picker(934)
        desk = Desk()
        for k in range(12):
            desk.keep("abcdefghijkl"[k], some_form(pick, 40, 10 ** 20))
        names = desk.names
        for k in range(12):
            desk.promise("abcdefghijkl"[k], ("like", names[k], names[k]))
        self.assertEqual(self.soon(5, desk.change, ((1, 1), (0, 1))), 25)


class Examples(Case, unittest.TestCase):
    def test_document(self):
        self.run_examples("""
>>> desk = Desk()
>>> [desk.keep("f", CUBIC), desk.lay("h", "f", "f", 2), desk.promise("a", ("laid", "f", "f", 2, "h")), desk.change(((1, 1), (0, 1))), str(desk)]
[1, 2, 3, 4, 'desk of 2 forms, 1 promises']
>>> [desk.form("f").entries, desk.form("h").entries, desk.undo(), desk.form("f") == CUBIC, desk.redo(), "h" in desk, len(desk)]
[(1, 3, 0, -1), (-72, -72, -72), 3, True, 4, True, 2]
>>> desk.keep("h", QUAD)
raises Refused(('promise', 'a'))
""", NAMES)

    def test_places(self):
        self.assertEqual(Desk.__module__, "sourceforms.desk.desk")
        told = """keep lay change drop promise let_go undo redo during form promised names labels deeds twin __contains__ __len__ __eq__
        __str__ __init__""".split()
        self.assertTrue(set(told) <= set(vars(Desk)))


if __name__ == "__main__":
    unittest.main()
