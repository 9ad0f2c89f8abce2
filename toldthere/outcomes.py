"""Outcomes: what a step can come to in a table, and what each row can do then."""

# What a row does that a step does not take, and of the others at which place it is taken.
KEPT = -1


class Outcome:
    """One way in which a step ends, with what has to come true for it by the rows.

    What must come true, each by some row, are binary digits: those of takes by just one row.
    """

    def __init__(self, *, some=None, mark=0, runs=True, halts=False, options=(), needs=0, takes=()):
        # Whether the look of the guard finds some row, and the digit for it.
        self.some = some
        self.mark = mark
        self.runs = runs
        self.halts = halts
        # For each rank of a row that is found: what the row can do. This is a list of quadruples: the place at
        # which it is taken (or KEPT), the digits that come true by it, those that must have come true by rows
        # with lesser numbers, and those that must not.
        self.options = options
        self.needs = needs
        # Pairs of a digit and of the place at which a row is taken.
        self.takes = takes


def outcomes(step, ranks, digit, at_home, can_halt, must_halt):
    """All outcomes of a step of a table in which rows of these ranks may be found; digit is the next free one."""
    listed = []
    for some in ((True, False) if step.wants is not None else (None,)):
        mark = digit if some else 0
        behind = digit << 1 if some else digit
        if some is not None and some != step.wants:
            if not must_halt:
                listed.append(Outcome(some=some, mark=mark, runs=False, needs=mark))
            continue
        for ran in _run(step, ranks, behind):
            halts = step.must and _finds_none(ran)
            if halts and (at_home or not can_halt) or must_halt and not halts:
                continue
            ran.some, ran.mark, ran.halts, ran.needs = some, mark, halts, ran.needs | mark
            listed.append(ran)
    return listed


def _finds_none(outcome):
    return all([len(options) == 0 for options in outcome.options])


def _run(step, ranks, digit):
    """The outcomes of a step that is run."""
    if step.puts:
        return [Outcome()]
    if step.most is None:
        if not step.must:
            return [Outcome(options=(((0, 0, 0, 0),),))]
        return [Outcome(options=(((0, digit, 0, 0),),), needs=digit), Outcome(options=((),))]
    none = Outcome(options=((),) * step.ranks)
    if step.most == 1:
        return [_first(step, rank, digit) for rank in ranks] + [none]
    pairs = [_pair(step, one, other, digit) for one in ranks for other in ranks if one < other]
    return pairs + [_level_pair(step, rank, digit) for rank in ranks] + [_lone(step, digit), none]


def _kept(step, digit):
    """What a row does that is level with one that is taken: it has to lie behind that one."""
    if step.order > 0:
        return KEPT, 0, digit, 0
    if step.order < 0:
        return KEPT, 0, 0, digit
    return KEPT, 0, 0, 0


def _behind(step, rank):
    """What the rows behind a rank do."""
    return (((KEPT, 0, 0, 0),),) * (step.ranks - rank - 1)


def _first(step, rank, digit):
    """A row of a rank is taken, as the only one."""
    options = ((),) * rank + (((0, digit, 0, 0), _kept(step, digit)),) + _behind(step, rank)
    return Outcome(options=options, needs=digit, takes=((digit, 0),))


def _lone(step, digit):
    """Two rows could be taken, but just one is found."""
    return Outcome(options=(((0, digit, 0, 0),),) * step.ranks, needs=digit, takes=((digit, 0),))


def _pair(step, one, other, digit):
    """The only row of a rank is taken, and one of the next rank that occurs."""
    second = digit << 1
    options = ((),) * one + (((0, digit, 0, 0),),) + ((),) * (other - one - 1)
    options = options + (((1, second, 0, 0), _kept(step, second)),) + _behind(step, other)
    return Outcome(options=options, needs=digit | second, takes=((digit, 0), (second, 1)))


def _level_pair(step, rank, digit):
    """Two rows of a rank are taken."""
    second = digit << 1
    first_one, second_one, kept = (0, digit, 0, 0), (1, second, 0, 0), (KEPT, 0, 0, 0)
    if step.order > 0:
        second_one, kept = (1, second, digit, 0), (KEPT, 0, second, 0)
    elif step.order < 0:
        # The rows go by ascending numbers, so that the first one in the order comes last.
        first_one, kept = (0, digit, second, 0), (KEPT, 0, 0, second)
    options = ((),) * rank + ((first_one, second_one, kept),) + _behind(step, rank)
    return Outcome(options=options, needs=digit | second, takes=((digit, 0), (second, 1)))
