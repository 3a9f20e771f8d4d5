"""Small helpers that all modules share: what single values are, how they are kept, and what hangs together."""

LETTERS = "abcdefghijklmnopqrstuvwxyz"


def is_int(value):
    """Whether any value is an integer."""
    return isinstance(value, int) and not isinstance(value, bool)


def is_number(value):
    """Whether any value is an integer from 0 on."""
    return is_int(value) and value >= 0


def is_name(value):
    """Whether any value is a string of 1 to 8 letters from a to z."""
    if not isinstance(value, str) or len(value) > 8:
        return False
    return value.isascii() and value.isalpha() and value.islower()


def is_tuple_of(value, many):
    """Whether any value is a tuple of so many things."""
    return isinstance(value, tuple) and len(value) == many


def is_pair_of_tuples(value):
    """Whether any value is a tuple of two tuples."""
    return is_tuple_of(value, 2) and isinstance(value[0], tuple) and isinstance(value[1], tuple)


def is_worded(value):
    """Whether any value is a tuple that begins with a string."""
    return isinstance(value, tuple) and len(value) > 0 and isinstance(value[0], str)


def _are_unlike_names(value):
    if not isinstance(value, tuple) or not all([is_name(name) for name in value]):
        return False
    return len(set(value)) == len(value)


def _is_of_kind(thing, kind):
    if kind == "name":
        return is_name(thing)
    if kind == "names":
        return _are_unlike_names(thing)
    if kind == "number":
        return is_number(thing)
    if kind == "length":
        return is_number(thing) and thing > 0
    if kind == "side":
        return thing in ("person", "house")
    return isinstance(thing, bool)


def are_of_kinds(things, kinds):
    """Whether a tuple of any values has one of each kind: name, names, number, length, side, flag."""
    return len(things) == len(kinds) and all([_is_of_kind(thing, kind) for thing, kind in zip(things, kinds)])


def kept(value):
    """Any value, with lists copied, so that a later change of one does not show."""
    if isinstance(value, list):
        return [kept(thing) for thing in value]
    if isinstance(value, tuple):
        return tuple([kept(thing) for thing in value])
    return value


def ascending(things):
    """The ascending tuple of names, or of tuples of names, each once."""
    return tuple(sorted(set(things)))


def sublots(things):
    """All tuples of some of these things, in their order; each stands behind those of some of its own things."""
    found = [()]
    for thing in things:
        found = found + [(*lot, thing) for lot in found]
    return found


def letter_names(many):
    """So many names of two letters: aa, ab, .., az, ba, .."""
    return tuple([LETTERS[at // len(LETTERS)] + LETTERS[at % len(LETTERS)] for at in range(many)])


def lots_of(things, links):
    """The ascending tuples of the things that hang together by links, in the order of their first things."""
    ordered = ascending(things)
    firsts = {thing: thing for thing in ordered}
    for one, other in links:
        first = min(firsts[one], firsts[other])
        second = max(firsts[one], firsts[other])
        firsts = {thing: first if firsts[thing] == second else firsts[thing] for thing in ordered}
    lots = {}
    for thing in ordered:
        lots.setdefault(firsts[thing], []).append(thing)
    return [tuple(lot) for lot in lots.values()]


def name_fault(things):
    """The first place of what is no name or not above the one ahead, or None."""
    for at, thing in enumerate(things):
        if not is_name(thing) or at > 0 and thing <= things[at - 1]:
            return at
    return None


def among_fault(things, names):
    """The first place of what is none of the names or not above the one ahead, or None."""
    for at, thing in enumerate(things):
        if thing not in names or at > 0 and thing <= things[at - 1]:
            return at
    return None


def unlike_fault(things, names):
    """The first place of what is none of the names or stands ahead already, or None."""
    for at, thing in enumerate(things):
        if thing not in names or thing in things[:at]:
            return at
    return None


def number_fault(things):
    """The first place of what is no number, or None."""
    for at, thing in enumerate(things):
        if not is_number(thing):
            return at
    return None
