"""Plans: what one is, and what is in it, points 5 and 6."""

from farcalls.deeds import Scope, are_deeds
from farcalls.errors import BadPlan, NoKind
from farcalls.worths import copied, is_bare, is_word

MOST_KINDS = 6
MOST_FIELDS = 5
MOST_METHODS = 8
MOST_PARAMS = 5


def need_plan(thing):
    """Refuses what is no plan."""
    if not is_tuple_of(thing, 1, MOST_KINDS):
        raise BadPlan(None, None)
    sizes = {}
    for at, kind in enumerate(thing):
        if not is_kind(kind) or kind[0] in sizes:
            raise BadPlan(at, None)
        sizes[kind[0]] = len(kind[1])
    for at, kind in enumerate(thing):
        word = first_bad_method(kind, sizes)
        if word is not None:
            raise BadPlan(at, word)


def is_tuple_of(thing, least, most):
    """Whether it is a tuple of so many parts."""
    return isinstance(thing, tuple) and least <= len(thing) <= most


def is_kind(thing):
    """Whether it is a kind, what stands in its deeds aside."""
    if not is_tuple_of(thing, 3, 3):
        return False
    word, fields, methods = thing
    if not is_word(word) or not is_tuple_of(fields, 0, MOST_FIELDS) or not is_tuple_of(methods, 0, MOST_METHODS):
        return False
    if not all([is_field(field) for field in fields]) or not all([is_method(method) for method in methods]):
        return False
    return are_unlike([field[0] for field in fields]) and are_unlike([method[0] for method in methods])


def is_field(thing):
    """Whether it is a field and its worth."""
    return is_tuple_of(thing, 2, 2) and is_word(thing[0]) and is_bare(thing[1])


def is_method(thing):
    """Whether it is a method, what stands in its deeds aside."""
    if not is_tuple_of(thing, 3, 3):
        return False
    word, params, deeds = thing
    if not is_word(word) or not is_tuple_of(params, 0, MOST_PARAMS) or not isinstance(deeds, tuple):
        return False
    return all([is_word(param) for param in params]) and are_unlike(params)


def are_unlike(words):
    """Whether no word comes twice."""
    return len(set(words)) == len(words)


def first_bad_method(kind, sizes):
    """The word of a kind's first method whose deeds aren't as told, or None."""
    fields = [field for field, _ in kind[1]]
    for word, params, deeds in kind[2]:
        known = {param: True for param in params}
        if not are_deeds(deeds, Scope(fields, sizes), known):
            return word
    return None


def kind_of(plan, kind):
    """The plan's kind (kind, fields, methods) of this word."""
    for row in plan:
        if row[0] == kind:
            return row
    raise NoKind(copied(kind))


def fields_of(plan, kind):
    """A kind's fields, in the plan's order, and their worths."""
    return {field: copied(worth) for field, worth in kind_of(plan, kind)[1]}


def words_of(plan, kind):
    """The words that a kind knows, rising."""
    return sorted([method[0] for method in kind_of(plan, kind)[2]])


def method_of(plan, kind, word, many):
    """The (word, params, deeds) of a kind's method of this word with so many params, or None."""
    for method in kind_of(plan, kind)[2]:
        if method[0] == word and len(method[1]) == many:
            return method
    return None


def filled(plan, kind, args):
    """The fields of a new thing: the args in the first ones, the plan's worths in the others."""
    fields = fields_of(plan, kind)
    first = dict(zip(list(fields), args))
    return {**fields, **first}
