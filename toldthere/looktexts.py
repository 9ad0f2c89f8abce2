"""The texts of looks."""

from toldthere.errors import ToldError
from toldthere.looks import every, has, numbered, same


def look_text(look):
    """The text of a look."""
    names = [*look.columns.names(), "number"]
    texts = []
    for step in look.steps:
        if step[0] == "in":
            things = " ".join([str(thing) for thing in step[2]])
            texts.append(f"{names[step[1]]} in {things}")
        elif step[0] == "same":
            texts.append(f"{names[step[1]]} = {names[step[2]]}")
        elif step[0] == "any":
            texts.append("any")
        elif step[0] == "not":
            texts.append(f"not ({texts.pop()})")
        else:
            other = texts.pop()
            texts.append(f"({texts.pop()}) {step[0]} ({other})")
    return texts[0]


def read_look(columns, written):
    """The look that has a text, None if none has."""
    looks = []
    for part in _parts(written):
        look = None
        if part == "not":
            look = ~looks.pop() if looks else None
        elif part in ("and", "or"):
            other = looks.pop() if looks else None
            one = looks.pop() if looks else None
            if one is not None:
                look = one & other if part == "and" else one | other
        else:
            look = _simple(columns, part)
        if look is None:
            return None
        looks.append(look)
    if len(looks) != 1 or look_text(looks[0]) != written:
        return None
    return looks[0]


def _parts(written):
    """The simple looks of a text, each in parts[..], with "not", "and" and "or" behind what they join."""
    parts = []
    # What still has to be closed: signs that stand ahead of the bracket that is open.
    waiting = []
    place = 0
    while place < len(written):
        rest = written[place:]
        if rest.startswith("not ("):
            waiting.append("not")
            place += 5
        elif rest.startswith("("):
            waiting.append("one")
            place += 1
        elif rest.startswith(")"):
            place += 1
            if not waiting:
                return []
            sign = waiting.pop()
            if sign != "one":
                parts.append(sign)
                continue
            rest = written[place:]
            for word in ("and", "or"):
                if rest.startswith(f" {word} ("):
                    waiting.append(word)
                    place += len(word) + 3
        else:
            end = place
            while end < len(written) and written[end] not in "()":
                end += 1
            parts.append(f"[{written[place:end]}")
            place = end
    return parts


def _simple(columns, part):
    """The simple look of a text behind a bracket, None if there is none."""
    words = part[1:].split(" ")
    try:
        if words == ["any"]:
            return every(columns)
        if len(words) > 2 and words[0] == "number" and words[1] == "in":
            return numbered(columns, [int(word) for word in words[2:]]) if _are_digits(words[2:]) else None
        if len(words) > 2 and words[1] == "in":
            return has(columns, words[0], words[2:])
        if len(words) == 3 and words[1] == "=":
            return same(columns, words[0], words[2])
    except ToldError:
        return None
    return None


def _are_digits(words):
    return all([len(word) == 1 and word in "1234" for word in words])
