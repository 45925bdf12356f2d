"""Worths that can be joined: what they are, how they are joined, and what pieces they have."""

LONGEST_NAME = 8
DEEPEST_KIND = 4

# How many kinds stand within a kind, by its word.
KINDS_WITHIN = {"names": 0, "most": 0, "last": 0, "each": 1, "both": 2}


def is_whole(thing):
    """Whether this is a whole number; a truth is none, though Python takes it for an int."""
    return isinstance(thing, int) and not isinstance(thing, bool)


def is_name(thing):
    if not isinstance(thing, str) or not 1 <= len(thing) <= LONGEST_NAME:
        return False
    return all("a" <= sign <= "z" for sign in thing)


def is_tuple_of(length, thing):
    return isinstance(thing, tuple) and len(thing) == length


def is_kind(thing):
    return is_kind_within(DEEPEST_KIND, thing)


def is_kind_within(depth, thing):
    """Whether this is a kind of at most so many tuples within one another."""
    if depth == 0 or not isinstance(thing, tuple) or len(thing) == 0:
        return False
    # A word that is no text may not even be fit to be looked up.
    if not isinstance(thing[0], str) or thing[0] not in KINDS_WITHIN:
        return False
    if len(thing) != 1 + KINDS_WITHIN[thing[0]]:
        return False
    return all(is_kind_within(depth - 1, inner) for inner in thing[1:])


def is_worth(kind, thing):
    word = kind[0]
    if word == "names":
        return isinstance(thing, tuple) and are_rising_names(thing)
    if word == "most":
        return is_whole(thing) and thing >= 0
    if word == "last":
        return is_stamped(thing)
    if word == "each":
        return is_table(kind[1], thing)
    return is_tuple_of(2, thing) and is_worth(kind[1], thing[0]) and is_worth(kind[2], thing[1])


def are_rising_names(things):
    if not all(is_name(thing) for thing in things):
        return False
    return all(one < other for one, other in zip(things, things[1:]))


def is_stamped(thing):
    if not is_tuple_of(2, thing) or not is_whole(thing[0]) or not is_whole(thing[1]):
        return False
    return thing[0] >= 1 or thing == (0, 0)


def is_table(kind, thing):
    if not isinstance(thing, tuple) or not all(is_entry(kind, entry) for entry in thing):
        return False
    return are_rising_names([entry[0] for entry in thing])


def is_entry(kind, thing):
    # A bottom has no entry, so that each table has one form only.
    return is_tuple_of(2, thing) and is_worth(kind, thing[1]) and thing[1] != bottom(kind)


def bottom(kind):
    """The least worth."""
    word = kind[0]
    if word == "most":
        return 0
    if word == "last":
        return (0, 0)
    if word == "both":
        return (bottom(kind[1]), bottom(kind[2]))
    return ()


def join(kind, one, other):
    """The least worth that holds both."""
    word = kind[0]
    if word == "names":
        return tuple(sorted(set(one + other)))
    if word == "each":
        return join_tables(kind[1], one, other)
    if word == "both":
        return (join(kind[1], one[0], other[0]), join(kind[2], one[1], other[1]))
    # Of last too: Python compares two tuples by their stamps first, then by their numbers.
    return max(one, other)


def join_tables(kind, one, other):
    table = dict(one)
    for name, worth in other:
        table[name] = join(kind, table.get(name, bottom(kind)), worth)
    return tuple(sorted(table.items()))


def under(kind, one, other):
    """Whether one is held by the other."""
    return join(kind, one, other) == other


def pieces(kind, worth):
    """The least parts of which the worth is joined, none of them to spare."""
    word = kind[0]
    if word == "names":
        return [(name,) for name in worth]
    if word == "each":
        return [((name, piece),) for name, inner in worth for piece in pieces(kind[1], inner)]
    if word == "both":
        firsts = [(piece, bottom(kind[2])) for piece in pieces(kind[1], worth[0])]
        return firsts + [(bottom(kind[1]), piece) for piece in pieces(kind[2], worth[1])]
    return [] if worth == bottom(kind) else [worth]


def lack(kind, one, other):
    """What one has and other does not hold: the join of those pieces of one."""
    # Done part by part: joining the pieces one by one would take far longer for great worths.
    word = kind[0]
    if word == "names":
        return tuple(sorted(set(one) - set(other)))
    if word == "each":
        return lack_of_tables(kind[1], one, other)
    if word == "both":
        return (lack(kind[1], one[0], other[0]), lack(kind[2], one[1], other[1]))
    return one if one > other else bottom(kind)


def lack_of_tables(kind, one, other):
    table = dict(other)
    least = bottom(kind)
    entries = [(name, lack(kind, worth, table.get(name, least))) for name, worth in one]
    return tuple([entry for entry in entries if entry[1] != least])
