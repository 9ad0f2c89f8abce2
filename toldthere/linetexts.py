"""The lines of texts: how columns, rows, triggers and statements are written, and what has been written so."""

from toldthere.columns import Columns
from toldthere.errors import ToldError
from toldthere.kinds import is_list
from toldthere.looktexts import look_text, read_look
from toldthere.statements import Change, Drop, Put, Trigger

DIGITS = "0123456789"
MOST_DIGITS = 40
WHERE = " where ["


def columns_line(columns):
    """The line of columns."""
    parts = []
    for name in columns.names():
        parts.append(" ".join([name, *(columns.told_values(name) or ())]))
    joined = "; ".join(parts)
    return f"columns {joined}"


def trigger_line(side, trigger):
    """The line of a trigger of a side, here or there."""
    return f"{side} {_change_text(trigger.columns, trigger.change)} where [{look_text(trigger.look)}]"


def statement_line(statement):
    """The line of a statement."""
    if statement.kind == "put":
        sources = [("value", thing) if isinstance(thing, str) else thing for thing in statement.row]
        parts = ["put", *[_source_text(source) for source in sources]]
    else:
        parts = [*_head_parts(statement), f"where [{look_text(statement.look)}]"]
    if statement.must:
        parts.append("must")
    if statement.when is not None:
        parts.append(f"if {statement.when[0]} [{look_text(statement.when[1])}]")
    if statement.how != "words":
        parts.append(f"told {statement.how}")
    return " ".join(parts)


def read_columns(line):
    """The columns of a line, None if it is no such line."""
    told, free = [], []
    for part in line.removeprefix("columns ").split("; "):
        name, *values = part.split(" ")
        if values:
            told.append((name, values))
        else:
            free.append(name)
    try:
        columns = Columns(told, free)
    except ToldError:
        return None
    return columns if columns_line(columns) == line else None


def read_number(written):
    """The number of a word of digits, None if it is none."""
    if not 1 <= len(written) <= MOST_DIGITS or written[0] == "0":
        return None
    return int(written) if all([digit in DIGITS for digit in written]) else None


def read_trigger(columns, side, line):
    """The trigger of a line of a side, None if it is no such line."""
    written, look, rest = _around_where(columns, line)
    if look is None or rest != "" or not written.startswith(f"{side} "):
        return None
    change = _read_change(written.removeprefix(f"{side} ").split(" "))
    try:
        trigger = Trigger(look, change)
    except ToldError:
        return None
    return trigger if trigger_line(side, trigger) == line else None


def read_statement(columns, line):
    """The statement of a line, None if it is no such line."""
    try:
        statement = _read_put(columns, line) if line.startswith("put ") else _read_taking(columns, line)
    except ToldError:
        return None
    return statement if statement is not None and statement_line(statement) == line else None


def _head_parts(statement):
    """What stands ahead of the look of a Drop or Change."""
    parts = ["drop" if statement.kind == "drop" else "set"]
    if statement.most is not None:
        parts.append(str(statement.most))
    if statement.kind == "change":
        changes = statement.changes if is_list(statement.changes) else [statement.changes]
        parts.append(" / ".join([_change_text(statement.columns, change) for change in changes]))
    if statement.by:
        parts.extend(["by", *statement.by])
    return parts


def _change_text(columns, change):
    pairs = [f"{name}={_source_text(change[name])}" for name in columns.names() if name in change]
    return " ".join(pairs) if pairs else "-"


def _source_text(source):
    if source[0] == "value":
        return source[1]
    return f".{source[1]}" if source[0] == "column" else f"*{source[0]}"


def _read_source(written):
    if written.startswith("."):
        return ("column", written[1:])
    return (written[1:],) if written.startswith("*") else ("value", written)


def _read_change(words):
    """The change of the words of its text; what is none becomes a change that cannot be made."""
    change = {}
    for word in words:
        name, _, source = word.partition("=")
        if word != "-":
            change[name] = _read_source(source)
    return change


def _around_where(columns, line):
    """What stands ahead of a look, the look, None if there is none, and what stands behind it."""
    written, _, behind = line.partition(WHERE)
    inner, _, rest = behind.partition("]")
    return written, read_look(columns, inner), rest


def _read_put(columns, line):
    words = line.split(" ")
    row = []
    for word in words[1:1 + len(columns)]:
        source = _read_source(word)
        row.append(source[1] if source[0] == "value" else source)
    when, must, how = _read_end(columns, " ".join(["", *words[1 + len(columns):]]))
    return None if must else Put(columns, row, when=when, how=how)


def _read_taking(columns, line):
    """The Drop or Change of a line; None, or one with another line, if it is no such line."""
    written, look, rest = _around_where(columns, line)
    words = written.split(" ")
    kind = words.pop(0)
    if look is None or kind not in ("drop", "set"):
        return None
    by = []
    if "by" in words:
        by = words[words.index("by") + 1:]
        words = words[:words.index("by")]
    most = None
    if words and words[0] in ("1", "2"):
        most = int(words.pop(0))
    when, must, how = _read_end(columns, rest)
    if kind == "drop":
        return Drop(look, most=most, by=by, when=when, must=must, how=how)
    changes = [[]]
    for word in words:
        if word == "/":
            changes.append([])
        else:
            changes[-1].append(word)
    changes = [_read_change(change) for change in changes]
    return Change(look, changes[0] if most is None else changes, by=by, when=when, must=must, how=how)


def _read_end(columns, rest):
    """The guard of what stands behind a statement, whether it has must, and in which way it is told."""
    must = rest.startswith(" must")
    rest = rest.removeprefix(" must")
    when = None
    for word in ("some", "none"):
        if rest.startswith(f" if {word} ["):
            inner, _, rest = rest.removeprefix(f" if {word} [").partition("]")
            look = read_look(columns, inner)
            when = (word, look) if look is not None else ()
    return when, must, rest.removeprefix(" told ") if rest != "" else "words"
