"""[10] to [13] and [3]: how statements are made, refused, told otherwise and compared."""

import unittest

from tests.parts import AGE, C, GUARD, MOMENT, NEW, OLD, OTHER, ROW, THROW, TURNED, make, sources_that_are_none
from tests.samples import NO_WORDS, any_objects, check_equal, same_thing
from toldthere.columns import Columns
from toldthere.errors import BadStatement
from toldthere.looks import every, has, numbered
from toldthere.statements import Change, Drop, Put

# What is no order of the rows that are taken, whatever statement it is for.
NO_ORDERS = [["owner"], ["-owner"], ["state", "state"], ["state", "-state"], ["-state", "state"],
             ["state", "past", "state"], ["number", "state"], ["-number", "state"], ["number", "-number"],
             ["-number", "number"], ["number", "number"], ["state", "number", "past"],
             ["state", "number", "-number"], ["new"], ["--state"], ["--number"], ["state-"], ["-"], [""], ["+state"],
             [" state"], "state", "number", "", {"state": 1}, [["state"]], [("number",)], [None], [1], [True], [NEW],
             ["state", None], [None, "number"]]
ORDERS = [["state"], ["-state"], ["past", "state"], ["-past", "-state"], ["state", "past"], ["number"], ["-number"],
          ["state", "number"], ["-state", "-number"], ["past", "-state", "-number"], ["state", "past", "number"]]

NO_GUARDS = [("some",), ("none",), ("some", NEW, NEW), ("any", NEW), ("Some", NEW), (NEW, "some"), ("some", None),
             ("some", "state"), ("some", [NEW]), (None, NEW), (True, NEW), (["some"], NEW), ("some", every(OTHER)),
             ("none", every(TURNED)), ["some", every(OTHER)], {"some": NEW}, {0: "some", 1: NEW}, "some", NEW, [NEW],
             ROW, [], (), [("some", NEW)], ("", NEW)]


class StatementCase(unittest.TestCase):
    def wrong(self, part, make_it, *arguments, **named):
        with self.subTest(arguments=arguments, named=named):
            with self.assertRaises(BadStatement) as caught:
                make_it(*arguments, **named)
            self.assertEqual(caught.exception.part, part)

    def check(self, statement, kind, how="words", must=False, of=C):
        self.assertIs(type(statement), {"put": Put, "drop": Drop, "change": Change}[kind])
        self.assertEqual(statement.kind, kind)
        self.assertEqual(statement.columns, of)
        self.assertEqual(statement.how, how)
        self.assertIs(statement.must, must)
        for name in ("kind", "columns", "how", "must"):
            self.assertIn(name, vars(statement))


class MadeTest(StatementCase):
    def test_put(self):
        self.check(Put(C, ROW), "put")
        self.check(Put(C, list(ROW)), "put")
        self.check(Put(C, ("old", "old", MOMENT)), "put")
        self.check(Put(C, ["old", "new", ["moment"]], when=["none", NEW], how="values"), "put", "values")
        self.check(Put(when=None, how="rows", row=ROW, columns=C), "put", "rows")
        self.check(Put(Columns([], ["a", "b"]), [MOMENT, MOMENT]), "put", of=Columns([], ["a", "b"]))

    def test_drop(self):
        self.check(Drop(NEW), "drop")
        self.check(Drop(NEW, most=1, by=["state", "number"], when=GUARD, must=True, how="rows"), "drop", "rows", True)
        self.check(Drop(look=NEW, most=2, by=("-number",), when=["none", NEW], must=False, how="values"),
                   "drop", "values")
        self.check(Drop(NEW, most=None, by=[], when=None), "drop")

    def test_change(self):
        self.check(Change(NEW, AGE), "change")
        self.check(Change(NEW, [AGE], by=["state", "number"], when=GUARD, must=True, how="rows"),
                   "change", "rows", True)
        self.check(Change(look=NEW, changes=(AGE, {}), by=("-number",), when=["none", NEW]), "change")
        self.check(Change(NEW, {}, must=True), "change", must=True)
        self.check(Change(NEW, [{}]), "change")

    def test_parts_by_name_alone(self):
        for made in (lambda: Put(C, ROW, None), lambda: Drop(NEW, 1), lambda: Change(NEW, AGE, ())):
            with self.assertRaises(TypeError):
                made()

    def test_each_source(self):
        sources = [("state", ("value", "new")), ("state", ("column", "past")), ("state", ("column", "state")),
                   ("owner", ("value", "anna")), ("owner", ("column", "owner")), ("owner", MOMENT), ("owner", THROW),
                   ("owner", ("value", "moment")), ("owner", ("value", "number"))]
        for name, source in sources:
            for shape in (tuple, list):
                self.check(Change(NEW, {name: shape(source)}), "change")
                self.check(Change(NEW, [{}, {name: shape(source)}]), "change")
        two = Columns([("a", ["x"])], ["one", "other"])
        self.check(Change(every(two), {"one": ("column", "other"), "other": ("column", "one")}), "change", of=two)

    def test_each_order(self):
        for by in ORDERS:
            for shape in (tuple, list):
                for most in (1, 2):
                    self.check(Drop(NEW, most=most, by=shape(by)), "drop")
                self.check(Change(NEW, [AGE], by=shape(by)), "change")
                self.check(Change(NEW, (AGE, AGE), by=shape(by)), "change")

    def test_methods_stand_in_the_class(self):
        for made in (Put, Drop, Change):
            self.assertEqual(made.__module__, "toldthere.statements")
            for method in ("__init__", "told", "by_number", "__eq__"):
                self.assertIn(method, made.__dict__)


class WrongTest(StatementCase):
    def test_row(self):
        rows = [("new", "old"), ROW + ("anna",), (), [], "abc", {"new": 1, "old": 2, "anna": 3},
                ("new", "lost", "anna"), ("anna", "new", "old"), (MOMENT, "old", "anna"), ("new", ["moment"], "anna"),
                ("new", "old", THROW), ("new", "old", ["throw"]), ("new", "old", ("moment", "moment")),
                ("new", "old", (MOMENT,)), ("new", "old", ("value", "anna")), ("new", "old", ()),
                ("new", "old", {"moment": 1}), ("new", "old", ("column", "owner")), ("new", "old", ("Moment",))]
        for row in rows + any_objects() + NO_WORDS:
            self.wrong("row", Put, C, row)
        for word in NO_WORDS + any_objects():
            self.wrong("row", Put, C, (word, "old", "anna"))
            self.wrong("row", Put, C, ["new", word, MOMENT])
            if word not in ("a", "number"):
                self.wrong("row", Put, C, ("new", "old", word))

    def test_look(self):
        for look in any_objects() + ["state", ("some", NEW), [NEW], AGE, C]:
            if not hasattr(look, "found"):
                self.wrong("look", Drop, look)
                self.wrong("look", Change, look, AGE)
                self.wrong("look", Drop, look, most=0, by=None, when=0, must=0, how=0)
                self.wrong("look", Change, look, None, by=None, when=0, must=0, how=0)

    def test_most(self):
        for most in any_objects() + [3, "1", [1], (2,), True, False, 0, -1]:
            if most is not None and (isinstance(most, bool) or most != 2 and most != 1):
                self.wrong("most", Drop, NEW, most=most)
                self.wrong("most", Drop, NEW, most=most, by=["state"])

    def test_changes(self):
        for changes in [[], (), [AGE, AGE, AGE], (AGE,) * 3, [[AGE]], [None], [AGE, None], [AGE, NEW], "state",
                        [AGE, [AGE]], [("state", ("value", "old"))], [["state"]], {AGE["state"]: "state"},
                        {None: MOMENT}, {0: MOMENT}, {"number": ("value", "old")}, {"none": ("value", "old")},
                        {True: MOMENT}, {("owner",): MOMENT}, {"owner": MOMENT, "last": MOMENT}, {"Owner": MOMENT},
                        {"-owner": MOMENT}]:
            self.wrong("changes", Change, NEW, changes)
        for changes in any_objects():
            if changes != {}:
                self.wrong("changes", Change, NEW, changes)
                self.wrong("changes", Change, NEW, [changes])
                self.wrong("changes", Change, NEW, (AGE, changes))

    def test_sources(self):
        for name, source in sources_that_are_none() + [(name, thing) for name in C.names() for thing in any_objects()]:
            self.wrong("changes", Change, NEW, {name: source})
            self.wrong("changes", Change, NEW, [{name: source}])
            self.wrong("changes", Change, NEW, ({"owner": MOMENT}, {"past": ("value", "new"), name: source}))

    def test_columns_of_other_values(self):
        of = Columns([("a", ["x", "y"]), ("b", ["y", "x"]), ("c", ["x", "y", "z"])])
        for name, source in (("a", "b"), ("b", "a"), ("a", "c"), ("c", "a"), ("c", "b")):
            self.wrong("changes", Change, every(of), {name: ("column", source)})

    def test_words_of_sources(self):
        for word in NO_WORDS + any_objects():
            self.wrong("changes", Change, NEW, {"state": ("value", word)})
            if word not in ("a", "number"):
                self.wrong("changes", Change, NEW, {"owner": ("value", word)})
            self.wrong("changes", Change, NEW, {"owner": ("column", word)})

    def test_by(self):
        for by in NO_ORDERS + any_objects():
            if by not in ([], ()):
                self.wrong("by", Drop, NEW, by=by)
                self.wrong("by", Drop, NEW, most=1, by=by)
                self.wrong("by", Drop, NEW, most=2, by=by)
                self.wrong("by", Change, NEW, AGE, by=by)
                self.wrong("by", Change, NEW, [AGE], by=by)
                self.wrong("by", Change, NEW, (AGE, AGE), by=by)

    def test_by_where_all_rows_are_taken(self):
        for by in ORDERS:
            self.wrong("by", Drop, NEW, by=by)
            self.wrong("by", Drop, NEW, most=None, by=tuple(by))
            self.wrong("by", Change, NEW, AGE, by=by)
            self.wrong("by", Change, NEW, {}, by=by)

    def test_when(self):
        for when in NO_GUARDS + any_objects():
            if when is not None:
                self.wrong("when", Put, C, ROW, when=when)
                self.wrong("when", Drop, NEW, when=when)
                self.wrong("when", Change, NEW, AGE, when=when)
                self.wrong("when", Change, NEW, [AGE], by=["number"], when=when)

    def test_must(self):
        for must in any_objects() + [0, 1, None, "True"]:
            if not isinstance(must, bool):
                self.wrong("must", Drop, NEW, must=must)
                self.wrong("must", Change, NEW, AGE, must=must)

    def test_how(self):
        for how in any_objects() + ["word", "Words", "value", "", ["words"], ("rows",), None, {"words": 1}]:
            self.wrong("how", Put, C, ROW, how=how)
            self.wrong("how", Drop, NEW, how=how)
            self.wrong("how", Change, NEW, AGE, how=how)

    def test_first_wrong_part(self):
        of_put = [("row", ("new",)), ("when", ("some", every(OTHER))), ("how", "none")]
        parts = [("most", 0), ("by", ["owner"]), ("when", 1), ("must", 1), ("how", 1)]
        of_change = [("changes", [])] + parts[1:]
        for at, (part, _) in enumerate(of_put):
            self.wrong(part, Put, C, **dict([("row", ROW)] + of_put[at:]))
        for at, (part, _) in enumerate(parts):
            named = dict([("most", 1)] + parts[at:])
            self.wrong(part, Drop, NEW, **named)
            self.wrong(part, Drop, NEW, **dict(reversed(list(named.items()))))
        for at, (part, _) in enumerate(of_change):
            self.wrong(part, Change, NEW, **dict([("changes", [AGE])] + of_change[at:]))

    def test_error_changes_no_argument(self):
        row, changes, by = ["new", "old", ["moment"], None], [{"owner": ["moment"]}, {"state": ["moment"]}], ["owner"]
        self.wrong("row", Put, C, row)
        self.wrong("changes", Change, NEW, changes)
        self.wrong("by", Drop, NEW, most=1, by=by)
        self.assertEqual(row, ["new", "old", ["moment"], None])
        self.assertEqual((changes, by), ([{"owner": ["moment"]}, {"state": ["moment"]}], ["owner"]))


def statements():
    """Statements of which none equals another one."""
    rows = [ROW, ("old", "old", "anna"), ("new", "old", "bert"), ("new", "old", MOMENT), ("new", "old", "moment")]
    ends = [{}, {"when": ("some", NEW)}, {"when": ("none", NEW)}, {"when": ("some", OLD)}, {"how": "values"},
            {"how": "rows"}, {"when": ("none", NEW), "how": "rows"}]
    found = [Put(C, row, **end) for row in rows for end in ends]
    ends = ends + [{"must": True}, {"must": True, "how": "values"}]
    orders = [[], ["state"], ["-state"], ["past"], ["number"], ["-number"], ["state", "past"], ["past", "state"],
              ["state", "number"]]
    for look in (NEW, OLD, NEW - numbered(C, [1])):
        found += [Drop(look, most=most, **end) for most in (None, 1, 2) for end in ends]
        found += [Drop(look, most=1, by=by) for by in orders[1:]] + [Drop(look, most=2, by=["state"])]
        changes = [AGE, [AGE], [AGE, AGE], {}, [{}], [{}, AGE], [AGE, {}], {"state": ("column", "state")},
                   {"state": ("column", "past")}, {"past": ("value", "old")}, {"state": ("value", "new")},
                   {"owner": MOMENT}, {"owner": THROW}, {"owner": ("value", "moment")}, {"owner": ("column", "owner")},
                   {"state": ("value", "old"), "owner": MOMENT}, [{"owner": MOMENT}], [{"owner": THROW}, {}]]
        found += [Change(look, change) for change in changes]
        found += [Change(look, [AGE], by=by) for by in orders[1:]]
        found += [Change(look, change, **end) for change in (AGE, [AGE]) for end in ends[1:]]
    found += [Drop(every(OTHER)), Drop(every(TURNED)), Change(every(OTHER), {}), Change(every(TURNED), {}),
              Put(TURNED, ROW), Put(OTHER, ("new", "anna"))]
    return found


class EqualTest(StatementCase):
    def test_each_part(self):
        one, other = statements(), statements()
        for k, first in enumerate(one):
            for j, second in enumerate(other):
                if (first == second) is not (k == j) or (first != second) is not (k != j):
                    self.fail(f"{k} {vars(first)} and {j} {vars(second)}")

    def test_looks_by_what_they_find(self):
        again = has(make(), "past", ["new", "old"]) - has(make(), "state", ["old"])
        check_equal(self, Drop(NEW), Drop(again), True)
        check_equal(self, Drop(NEW, when=("some", NEW)), Drop(NEW, when=["some", again]), True)
        check_equal(self, Put(C, ROW, when=("none", again)), Put(make(), list(ROW), when=["none", NEW]), True)
        check_equal(self, Change(again, AGE, when=("some", OLD)), Change(NEW, AGE, when=("some", ~again)), True)

    def test_changes_in_any_order(self):
        one = Change(NEW, {"state": ("value", "old"), "owner": MOMENT})
        check_equal(self, one, Change(NEW, {"owner": ["moment"], "state": ["value", "old"]}), True)
        check_equal(self, Change(NEW, [{"past": ("column", "state"), "owner": THROW}, {}], by=["state"]),
                    Change(NEW, ({"owner": ["throw"], "past": ("column", "state")}, {}), by=("state",)), True)
        check_equal(self, Change(NEW, [AGE, {}]), Change(NEW, [{}, AGE]), False)

    def test_lists_and_tuples(self):
        check_equal(self, Put(C, ["new", "old", ["moment"]]), Put(C, ("new", "old", ("moment",))), True)
        check_equal(self, Drop(NEW, most=1, by=["state"]), Drop(NEW, most=1, by=("state",)), True)

    def test_other_objects(self):
        for one in (Put(C, ROW), Drop(NEW), Change(NEW, AGE)):
            for other in any_objects() + [ROW, NEW, AGE, C, [one], (one,), "put", "drop", "change"]:
                check_equal(self, one, other, False)


class ToldTest(StatementCase):
    def test_told(self):
        for end in ({}, {"when": GUARD}):
            for how in ("words", "values", "rows"):
                for other in ("words", "values", "rows"):
                    told = Put(C, ("new", "old", MOMENT), how=how, **end).told(other)
                    check_equal(self, told, Put(C, ("new", "old", MOMENT), how=other, **end), True)
                    self.check(told, "put", other)
                    for must in (False, True):
                        told = Drop(NEW, most=2, by=["-state"], must=must, how=how, **end).told(how=other)
                        check_equal(self, told, Drop(NEW, most=2, by=["-state"], must=must, how=other, **end), True)
                        self.check(told, "drop", other, must)
                        for changes, by in ((AGE, ()), ([AGE], ["state"]), ((AGE, {}), ("number",))):
                            told = Change(NEW, changes, by=by, must=must, how=how, **end).told(other)
                            check_equal(self, told, Change(NEW, changes, by=by, must=must, how=other, **end), True)
                            self.check(told, "change", other, must)

    def test_each_statement_keeps_its_parts(self):
        for one, other in zip(statements(), statements()):
            self.assertEqual(one.told("rows").told(one.how), other)
            self.assertEqual(one.told("rows") == one, one.how == "rows")
            self.assertEqual(one, other)

    def test_wrong_how(self):
        for how in any_objects() + ["word", "", None, ["words"], "number"]:
            for one in (Put(C, ROW), Drop(NEW), Change(NEW, AGE)):
                self.wrong("how", one.told, how)
                self.assertEqual(one.how, "words")

    def test_by_number_of_what_has_no_order(self):
        for one in (Put(C, ROW), Put(C, ROW, when=GUARD, how="rows"), Drop(NEW), Drop(NEW, must=True, how="values"),
                    Change(NEW, AGE), Change(NEW, {}, when=GUARD, must=True)):
            check_equal(self, one.by_number(), one, True)
            self.check(one.by_number(), one.kind, one.how, one.must)

    def test_by_number(self):
        for by in [[]] + ORDERS:
            ordered = by if by and by[-1].endswith("number") else by + ["number"]
            for end in ({}, {"when": GUARD, "must": True, "how": "values"}):
                for most in (1, 2):
                    one = Drop(NEW, most=most, by=by, **end)
                    check_equal(self, one.by_number(), Drop(NEW, most=most, by=ordered, **end), True)
                    check_equal(self, one.by_number().by_number(), one.by_number(), True)
                    self.assertEqual(one.by_number() == one, by == ordered)
                for changes in ([AGE], [AGE, {"owner": THROW}]):
                    one = Change(NEW, changes, by=by, **end)
                    check_equal(self, one.by_number(), Change(NEW, changes, by=ordered, **end), True)
                    self.assertEqual(one.by_number() == one, by == ordered)
                    self.check(one.by_number(), "change", one.how, one.must)


class CopiedTest(StatementCase):
    def test_put(self):
        row, when = ["new", "old", ["moment"]], ["some", NEW]
        one, before = Put(C, row, when=when), Put(C, ("new", "old", MOMENT), when=("some", NEW))
        self.assertEqual(row, ["new", "old", ["moment"]])
        row[2][0] = "throw"
        row[0] = "old"
        row.append("new")
        when[0], when[1] = "none", OLD
        check_equal(self, one, before, True)
        check_equal(self, one.told("rows"), before.told("rows"), True)

    def test_drop(self):
        by, when = ["state"], ["none", NEW]
        one, before = Drop(NEW, most=1, by=by, when=when), Drop(NEW, most=1, by=("state",), when=("none", NEW))
        self.assertEqual((by, when[0]), (["state"], "none"))
        by[0] = "past"
        by.append("number")
        when[0] = "some"
        when.append(None)
        check_equal(self, one, before, True)
        check_equal(self, one.by_number(), before.by_number(), True)

    def test_change(self):
        source, by = ["value", "old"], ["state"]
        change = {"state": source}
        changes = [change, {"owner": ["moment"]}]
        one = Change(NEW, changes, by=by)
        all_rows = Change(NEW, change)
        self.assertTrue(same_thing(changes, [{"state": ["value", "old"]}, {"owner": ["moment"]}]))
        source[1] = "new"
        change["past"] = ("value", "new")
        changes[1]["owner"][0] = "throw"
        changes.append({})
        by.clear()
        check_equal(self, one, Change(NEW, [AGE, {"owner": MOMENT}], by=["state"]), True)
        check_equal(self, all_rows, Change(NEW, AGE), True)
        check_equal(self, all_rows.told("rows"), Change(NEW, AGE, how="rows"), True)
