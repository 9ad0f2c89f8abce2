"""Weavings of dealings by the words of section 9 of the document, on one table at a time."""

from tests import oracle


def weavings(lengths):
    """All weavings of dealings of so many statements."""
    listed = []

    def go_on(weaving, places):
        if all(place > length for place, length in zip(places, lengths)):
            listed.append(tuple(weaving))
        for d, length in enumerate(lengths):
            if places[d] <= length:
                event = (d, places[d] if places[d] < length else None)
                go_on(weaving + [event], [place + (other == d) for other, place in enumerate(places)])

    go_on([], [0] * len(lengths))
    return listed


class Done:
    """What a statement at home had to do with rows."""

    def __init__(self, statement, rows, left):
        self.before, self.left = rows, left
        self.looks = [] if statement.when is None else [statement.when[1]]
        if statement.kind != "put" and oracle.is_run(statement, rows):
            self.looks.append(statement.look)
        self.found = {number for look in self.looks for number in oracle.found(look, rows)}

    def finds(self, rows, number):
        return rows.get(number) is not None and any(look(rows[number], number) for look in self.looks)


def waits(level, mine, other):
    """Whether a statement has to wait for the dealing of another one, by the table of [28]."""
    if set(mine.left) & set(other.left):
        return True
    if level in ("found", "looks") and (mine.found & set(other.left) or set(mine.left) & other.found):
        return True
    if level != "looks":
        return False
    return (any(mine.finds(rows, number) for number in other.left for rows in (other.before, other.left))
            or any(other.finds(rows, number) for number in mine.left for rows in (mine.before, mine.left)))


def home_runs(dealings, state, level, weaving):
    """All (state, what is told of each statement) behind a weaving that happens at home."""
    statements = dealings.statements()
    runs = [(state, {}, {})]
    for d, k in weaving:
        following = []
        for before, tolds, marks in runs:
            if k is None:
                following.append((before, tolds, {other: done for other, done in marks.items() if other != d}))
                continue
            for after, told in oracle.home_steps(statements[d][k], before, dealings.here, f"h{d}{k}"):
                mine = Done(statements[d][k], before[0], told.left)
                others = [done for other, listed in marks.items() if other != d for done in listed]
                if not any(waits(level, mine, other) for other in others):
                    following.append((after, {**tolds, (d, k): told}, {**marks, d: marks.get(d, []) + [mine]}))
        runs = following
    return [(after, tolds) for after, tolds, _ in runs]


def telling(dealings, weaving):
    """What the copy is told, in its order: pairs of a dealing and of an index in it."""
    return [(d, k) for d, end in weaving if end is None for k in range(len(dealings.statements()[d]))]


def parts(dealings, state, level, weaving):
    """Whether home and copy can part by a weaving from a table."""
    for home, tolds in home_runs(dealings, state, level, weaving):
        for copy, _, halted in oracle.copy_runs([tolds[event] for event in telling(dealings, weaving)], state,
                                                dealings.there):
            if halted is not None or copy != home:
                return True
    return False


def check(dealings, level, woven):
    """Checks that a woven parting can be."""
    firsts = [sum(len(listed) for listed in dealings.statements()[:d]) for d in range(len(dealings))]
    order = [firsts[d] + k for d, k in woven.weaving if k is not None]
    told = [firsts[d] + k for d, k in telling(dealings, woven.weaving)]
    statements = [statement for listed in dealings.statements() for statement in listed]
    oracle.replay(dealings.columns, statements, dealings.here, dealings.there, woven.parting, order, told)
    assert parts(dealings, (woven.parting.start.rows(), woven.parting.start.following), level, woven.weaving)
