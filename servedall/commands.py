"""Calls of a town, and the lines in which they are written."""

from servedall.errors import InvalidCommand
from servedall.values import are_of_kinds, is_tuple_of, is_worded

# What stands behind the word of each deed.
FORMS = {"house": ("name", "number"), "close": ("name",), "price": ("name", "number"), "person": ("name", "names"),
         "leave": ("name",), "serve": ("name", "name", "flag")}
FLAGS = {"on": True, "off": False}
# No integer has more figures than this; int() would not read many more.
_MOST_FIGURES = 4000


def is_deed(value):
    """Whether any value is a deed."""
    return is_worded(value) and value[0] in FORMS and are_of_kinds(value[1:], FORMS[value[0]])


def _are_deeds(value):
    return isinstance(value, tuple) and all([is_deed(deed) for deed in value])


def is_call(value):
    """Whether any value is a call."""
    if value == ("undo",) or value == ("redo",) or is_deed(value):
        return True
    return is_tuple_of(value, 2) and value[0] == "batch" and _are_deeds(value[1])


def _words_of(thing):
    if isinstance(thing, bool):
        return ["on" if thing else "off"]
    return list(thing) if isinstance(thing, tuple) else [f"{thing}"]


def _line_of(words):
    """The line of a call but a batch."""
    return " ".join([word for thing in words for word in _words_of(thing)])


def call_line(call):
    """The line of a call."""
    if call[0] != "batch":
        return _line_of(call)
    if not call[1]:
        return "all"
    deeds = [_line_of(deed) for deed in call[1]]
    return "all " + "; ".join(deeds)


def _thing_of(kind, words):
    """What the first of some words means, or all of them for names; None if it means nothing."""
    if kind == "names":
        return tuple(words)
    if kind == "flag":
        return FLAGS.get(words[0])
    if kind == "number":
        figures = words[0].isascii() and words[0].isdigit() and len(words[0]) <= _MOST_FIGURES
        return int(words[0]) if figures else None
    return words[0]


def _deed_of(line):
    """The deed with this line, or None."""
    word, *words = line.split(" ")
    form = FORMS.get(word, ())
    if len(words) < len(form) - form.count("names"):
        return None
    deed = (word, *[_thing_of(kind, words[at:]) for at, kind in enumerate(form)])
    # Writing it again shows words too many, and zeros ahead of a price.
    return deed if is_deed(deed) and _line_of(deed) == line else None


def _call_of(line):
    """The call with this line, or None."""
    if line in ("undo", "redo"):
        return (line,)
    if line == "all":
        return ("batch", ())
    if not line.startswith("all "):
        return _deed_of(line)
    deeds = [_deed_of(part) for part in line[4:].split("; ")]
    return None if None in deeds else ("batch", tuple(deeds))


def read_call(value):
    """The call with this line."""
    call = _call_of(value) if isinstance(value, str) else None
    if call is None:
        raise InvalidCommand()
    return call
