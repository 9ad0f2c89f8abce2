"""[36] and [37]: texts of tables, scripts and dealings."""

import random
import unittest

from tests.made import Maker, small_maker
from tests.samples import LONG
from toldthere.columns import Columns
from toldthere.errors import BadText
from toldthere.looks import every, has, numbered, same
from toldthere.scripts import Script
from toldthere.statements import Change, Drop, Put, Trigger
from toldthere.tables import Table
from toldthere.texts import read, text
from toldthere.weavings import Dealings

C = Columns([("state", ["new", "old"]), ("past", ["new", "old"])], ["owner"])
FIRST = "columns state new old; past new old; owner\n"
NEW, ANNA, ALL = has(C, "state", ["new"]), has(C, "owner", ["anna", "bert"]), every(C)
AGE = {"state": ("value", "old")}
# Columns and words that are called as the words of texts are.
NAMES = ["by", "where", "not", "any", "in", "if", "told", "must", "set", "put", "row", "some", "and", "or", "dealing",
         "columns", "a", "here", "values", "follow"]
MOST = 10 ** 40 - 1
EXAMPLE = """columns state new old; owner
here owner=*moment where [state in old]
set 2 state=old / - by -state number where [(state in new) and (not (number in 1 2))] must if some [any] told rows
put new anna
drop 1 where [any]
"""


def look_of(columns, look):
    line = text(Script(columns, [Drop(look)])).split("\n")[1]
    return line.removeprefix("drop where [").removesuffix("]")


def any_thing(seed):
    """A table, a script or dealings of columns with odd names."""
    chance = random.Random(seed)
    names = chance.sample(NAMES, chance.randint(1, 3))
    free = chance.randint(0, min(2, len(names)))
    columns = Columns([(name, chance.sample(NAMES, chance.randint(1, 3))) for name in names[free:]], names[:free])
    maker = Maker(seed, columns, numbers=True, words=("by", "where", "w"))
    kind = chance.random()
    if kind < 0.2:
        numbers = chance.sample(range(1, 30), chance.randint(0, 4))
        rows = {number * chance.choice([1, 10 ** 38]): [maker.word(name) for name in columns.names()]
                for number in numbers}
        return Table(columns, rows, following=max(rows, default=0) + chance.choice([1, 7]))
    if kind < 0.7:
        return maker.script(chance.randint(0, 5))
    return maker.dealings(chance.choice([[1], [1, 1], [2, 1], [1, 1, 1]]))


class TextTest(unittest.TestCase):
    def both(self, thing, *lines):
        """Checks the text of a thing behind the line of its columns, and that it can be read."""
        written = FIRST + "".join(line + "\n" for line in lines)
        self.assertEqual(text(thing), written)
        found = read(written)
        self.assertIs(type(found), type(thing))
        self.assertEqual(found, thing)
        self.assertEqual(text(found), written)

    def test_tables(self):
        self.both(Table(C, {}), "following 1")
        self.both(Table(C, {}, following=LONG % MOST), f"following {LONG % MOST}")
        self.both(Table(C, {7: ("old", "new", "w"), 2: ("new", "new", "row")}), "row 2 new new row", "row 7 old new w",
                  "following 8")
        self.both(Table(C, {MOST - 1: ("old", "new", "w")}), f"row {MOST - 1} old new w", f"following {MOST}")

    def test_columns(self):
        for columns, line in ((Columns([], ["a"]), "columns a"), (Columns([], ["a", "b"]), "columns a; b"),
                              (Columns([("a", ["x"])]), "columns a x"),
                              (Columns([("b", ["x", "y", "z"]), ("a", ["b"])], ["c"]), "columns b x y z; a b; c")):
            self.assertEqual(text(Script(columns, [])), line + "\n")
            self.assertEqual(read(line + "\n"), Script(columns, []))

    def test_puts(self):
        for row, end, parts in ((("new", "old", "anna"), "new old anna", {}),
                                (("new", "old", ("moment",)), "new old *moment told rows", {"how": "rows"}),
                                (("new", "new", "if"), "new new if if none [any] told values",
                                 {"how": "values", "when": ("none", ALL)})):
            self.both(Script(C, [Put(C, row, **parts)]), f"put {end}")

    def test_drops(self):
        self.both(Script(C, [Drop(ALL), Drop(NEW, most=1), Drop(NEW, most=2, by=["-state", "past", "number"]),
                             Drop(NEW, most=1, by=["-number"], must=True, how="values"),
                             Drop(NEW, must=True, when=("some", ALL)), Drop(ALL, when=("none", NEW), how="rows")]),
                  "drop where [any]", "drop 1 where [state in new]",
                  "drop 2 by -state past number where [state in new]",
                  "drop 1 by -number where [state in new] must told values",
                  "drop where [state in new] must if some [any]", "drop where [any] if none [state in new] told rows")

    def test_changes(self):
        change = {"owner": ("throw",), "state": ("column", "past"), "past": ("value", "new")}
        self.both(Script(C, [Change(ALL, change), Change(ALL, {}), Change(ALL, [{}]),
                             Change(ALL, [{"owner": ("moment",)}, AGE], by=["past"], how="rows"),
                             Change(ALL, {"owner": ("column", "owner")}, must=True)]),
                  "set state=.past past=new owner=*throw where [any]", "set - where [any]", "set 1 - where [any]",
                  "set 2 owner=*moment / state=old by past where [any] told rows",
                  "set owner=.owner where [any] must")

    def test_triggers(self):
        one, other = Trigger(NEW, AGE), Trigger(ANNA, {"owner": ("value", "where")})
        lines = ["here state=old where [state in new]", "here owner=where where [owner in anna bert]",
                 "there owner=where where [owner in anna bert]"]
        self.both(Script(C, [], here=[one, other], there=[other]), *lines)
        self.both(Script(C, [Drop(ALL)], here=[one, other], there=[other]), *lines, "drop where [any]")
        self.both(Dealings(C, [[Drop(ALL)]], here=[one, other], there=[other]), *lines, "dealing", "drop where [any]")
        self.both(Script(C, [], there=[Trigger(NEW, {})]), "there - where [state in new]")

    def test_dealings(self):
        drop, put = Drop(ALL), Put(C, ("new", "old", "w"))
        self.both(Dealings(C, [[drop], [put, drop], [put]]), "dealing", "drop where [any]", "dealing", "put new old w",
                  "drop where [any]", "dealing", "put new old w")

    def test_looks(self):
        pair = same(C, "past", "state")
        for look, written in ((ALL, "any"), (has(C, "state", ["old", "new"]), "state in old new"),
                              (ANNA, "owner in anna bert"), (pair, "past = state"),
                              (numbered(C, [3, 1, 3]), "number in 3 1 3"), (~ALL, "not (any)"),
                              (NEW & pair, "(state in new) and (past = state)"),
                              (NEW | ALL, "(state in new) or (any)"), (NEW - ALL, "(state in new) and (not (any))"),
                              (NEW ^ ALL, "((state in new) or (any)) and (not ((state in new) and (any)))"),
                              (~~NEW, "not (not (state in new))")):
            self.assertEqual(look_of(C, look), written)
            found = read(f"{FIRST}drop where [{written}]\n")[0]
            self.assertEqual(found, Drop(look))
            self.assertEqual(text(Script(C, [found])), f"{FIRST}drop where [{written}]\n")

    def test_deep_looks(self):
        look = NEW
        for place in range(49):
            look = ~(look & ALL) if place % 2 else look ^ ANNA if place < 8 else ANNA | look
        written = text(Script(C, [Drop(look)]))
        self.assertEqual(text(read(written)), written)
        look = NEW
        for _ in range(100):
            look = ~look
        self.assertEqual(read(text(Script(C, [Drop(look)]))), Script(C, [Drop(NEW)]))

    def test_by_names(self):
        self.assertEqual(text(thing=Table(C, {})), FIRST + "following 1\n")
        self.assertEqual(read(written=FIRST + "following 1\n"), Table(C, {}))


class BadTextTest(unittest.TestCase):
    def bad(self, line, written):
        with self.subTest(written=written), self.assertRaises(BadText) as caught:
            read(written)
        self.assertEqual(caught.exception.line, line)

    def bad_line(self, *lines):
        """Checks that the last one of some lines behind the columns is the first one that cannot stand there."""
        written = FIRST + "".join(line + "\n" for line in lines)
        self.bad(len(lines) + 1, written)
        self.bad(len(lines) + 1, written + "drop where [any]\n")
        # Without its line feed an empty line is none at all.
        if lines[-1] != "":
            self.bad(len(lines) + 1, written.removesuffix("\n"))

    def test_the_example(self):
        self.bad(2, EXAMPLE)
        lines = EXAMPLE.splitlines(keepends=True)
        found = read(lines[0] + "".join(lines[2:]))
        self.assertEqual(len(found), 3)
        self.assertEqual(text(found), lines[0] + "".join(lines[2:]))

    def test_texts_that_end_too_early(self):
        self.bad(1, "")
        self.bad(1, "columns state new old")
        self.bad(2, "columns state new old\nput new")
        self.bad(1, "\n")
        self.bad(2, FIRST + "dealing")
        self.bad(3, FIRST + "dealing\n")
        self.bad(5, FIRST + "dealing\ndrop where [any]\ndealing\n")
        self.bad(3, FIRST + "row 1 new old w\n")
        self.bad(2, FIRST + "following 1")
        self.bad(3, FIRST + "following 1\n ")

    def test_columns(self):
        for line in ("", "columns", "columns ", "column a", "columns  a", " columns a", "columns a ", "columns a;b",
                     "columns a;  b", "columns a; a", "columns number", "columns a x x", "columns a w x y z",
                     "columns a; b x", "columns a; b; c", "columns a x; b x; c x; d x", "columns A", "columns a-b",
                     "columns a x; ", "columns ; a", "Columns a", "columns abcdefghi", "columns a x;; b", "row 1 a"):
            self.bad(1, line + "\n")
            self.bad(1, line + "\nfollowing 1\n")

    def test_rows(self):
        for line in ("row", "row 1", "row 1 new old", "row 1 new old w w", "row 1 new lost w", "row 0 new old w",
                     "row -1 new old w", "row 01 new old w", "row +1 new old w", "row one new old w", "row  new old w",
                     "row 1  new old w", "row 1 new old w ", " row 1 new old w", "row 1 new old W", "Row 1 new old w",
                     f"row {MOST} new old w", f"row {MOST + 1} new old w", "row 1_0 new old w", "rows 1 new old w"):
            self.bad_line(line)
        for line in ("row 3 new old w", "row 2 new old w", "drop where [any]", "here - where [any]", "dealing", "",
                     "following 3", "following 0", "following", "following 04", "following 4 ", f"following {MOST + 1}",
                     "following x", "following -4"):
            self.bad_line("row 3 new old w", line)
        for line in ("following 5", "row 5 new old w", "drop where [any]", ""):
            self.bad_line("following 4", line)
        self.bad_line("drop where [any]", "row 1 new old w")
        self.bad_line("here - where [any]", "following 1")
        self.bad_line("following 0")

    def test_triggers(self):
        for line in ("here", "here -", "here - where", "here - where any", "here - where []", "here  where [any]",
                     "here - where [any] ", "here - where [any] must", "here - where [any] told rows", "here where [any]",
                     "here state=lost where [any]", "here owner=*throw where [any]", "here owner=*moment where [any]",
                     "here past=new state=new where [any]", "here state=new state=new where [any]",
                     "here state=.owner where [any]", "here 1 - where [any]", "here - by state where [any]",
                     "here none=new where [any]", "here state=new - where [any]", "Here - where [any]",
                     "here state=new  past=new where [any]", "here state where [any]", "here - where [none in new]"):
            self.bad_line(line)
            self.bad_line("there - where [any]", line)
            self.bad_line(line.replace("here", "there", 1) if line.startswith("here") else line)
        self.bad_line("there - where [any]", "here - where [any]")
        self.bad_line("drop where [any]", "there - where [any]")
        self.bad_line("dealing", "here - where [any]")
        self.bad_line("dealing", "drop where [any]", "there - where [any]")

    def test_dealings(self):
        self.bad_line("drop where [any]", "dealing")
        self.bad_line("dealing", "dealing")
        self.bad_line("dealing ")
        self.bad_line("dealing 1")
        three = ["dealing", "drop where [any]"] * 3
        self.bad_line(*three, "dealing")
        self.assertEqual(len(read(FIRST + "".join(line + "\n" for line in three))), 3)

    def test_statements(self):
        for line in ("", " ", "put", "put new", "put new old", "put new old w w", "put new old *throw",
                     "put new old .owner", "put *moment old w", "put new old w must", "put new lost w", "put new  old w",
                     "put new old w told words", "put new old w told", "put new old w told rows told rows",
                     "put new old w told rows if some [any]", "put new old w if any [any]", "put new old w if some any",
                     "put new old w if some [any] if none [any]", "put new old w ", "put new old w where [any]",
                     "drop", "drop where", "drop where any", "drop where [any", "drop where []", "drop  where [any]",
                     "drop where [any] must must", "drop where [any] told words", "drop where [any]must",
                     "drop where [any] if some [any] must", "drop 0 where [any]", "drop 3 where [any]",
                     "drop 01 where [any]", "drop by state where [any]", "drop 1 by where [any]",
                     "drop 1 by owner where [any]", "drop 1 by state state where [any]",
                     "drop 1 by number state where [any]", "drop 1 by --state where [any]", "drop - where [any]",
                     "drop 1 state where [any]", "drop 1 by state  where [any]", "delete where [any]",
                     "set where [any]", "set  where [any]", "set 0 - where [any]", "set 3 - / - / - where [any]",
                     "set 2 - where [any]", "set 1 - / - where [any]", "set - / - where [any]", "set 2 -/- where [any]",
                     "set - by state where [any]", "set 1 - by -owner where [any]", "set past=new state=new where [any]",
                     "set state=new state=old where [any]", "set state=new - where [any]", "set state where [any]",
                     "set state= where [any]", "set =new where [any]", "set state=*moment where [any]",
                     "set owner=*now where [any]", "set owner=Anna where [any]", "set owner=.state where [any]",
                     "set state=.none where [any]", "set owner=anna=bert where [any]", "set 2 - /  - where [any]",
                     "Drop where [any]", "drop where [any] told Rows", "drop where [any] told values rows"):
            self.bad_line(line)
            self.bad_line("dealing", line)
            self.bad_line("drop where [any]", line)

    def test_looks(self):
        for look in ("", "any ", " any", "all", "state in", "state in ", "state in lost", "state in new new",
                     "state in new  old", "none in new", "number in", "number in 0", "number in 5", "number in 01",
                     "number in 1 a", "number in new", "owner in Anna", "state = owner", "state = state",
                     "state = none", "state =past", "state = past = past", "number = state", "state == past",
                     "(any)", "((any))", "not any", "not  (any)", "not (any", "not any)", "(any) and any",
                     "any and any", "(any) and (any", "(any) xor (any)", "(any) and  (any)", "(any)and(any)",
                     "(any) and (any) and (any)", "(any) and (any)) or (any)", "((any) and (any) or (any)", "not ()",
                     "() and (any)", "not (any) and (any)", "(not (any)) (any)", "any any", "not (any)not (any)", ")",
                     "(", "[any]", "any]", "(any) not (any)", "not (any) or"):
            self.bad_line(f"drop where [{look}]")
            self.bad_line(f"put new old w if some [{look}]")
            self.bad_line(f"here - where [{look}]")

    def test_by_chance(self):
        for seed in range(400):
            thing = any_thing(seed)
            written = text(thing)
            with self.subTest(written=written):
                found = read(written)
                self.assertIs(type(found), type(thing))
                self.assertEqual(found, thing)
                self.assertEqual(text(found), written)
                self.check_beginnings(written)
                self.check_spoiled(written, random.Random(seed))

    def check_beginnings(self, written):
        """Each beginning of a text goes on, and so is bad behind its last line alone, if it is no text itself."""
        lines = written.splitlines(keepends=True)
        for count in range(len(lines)):
            part = "".join(lines[:count])
            try:
                self.assertEqual(text(read(part)), part)
            except BadText as error:
                self.assertEqual(error.line, count + 1)

    def check_spoiled(self, written, chance):
        for _ in range(10):
            place = chance.randrange(len(written))
            spoiled = written[:place] + chance.choice(["", " ", "a", "1", "\n", "]", "-"]) + written[place + 1:]
            try:
                self.assertEqual(text(read(spoiled)), spoiled)
            except BadText as error:
                self.assertLessEqual(error.line, spoiled.count("\n") + 1)
                # What stands ahead of the line can be gone on with, so that it is not bad ahead of its end.
                ahead = "".join(line + "\n" for line in spoiled.split("\n")[:error.line - 1])
                try:
                    read(ahead)
                except BadText as other:
                    self.assertEqual(other.line, error.line)
