"""What tells whether a thing is built of tuples and numbers as a value must be (sections 2 and 3)."""


def is_number(thing):
    """Tell whether thing is a number: True and False are none."""
    return isinstance(thing, int) and not isinstance(thing, bool)


def are_numbers_from(thing, low):
    """Tell whether thing is a tuple of numbers, none below low."""
    return isinstance(thing, tuple) and all([is_number(own) and own >= low for own in thing])


def are_places(thing, many):
    """Tell whether thing is a tuple of the numbers 0, 1, .. below many, in whatever order."""
    return are_numbers_from(thing, 0) and all([own < many for own in thing])


def is_set_of_places(thing, many):
    """Tell whether thing is an ascending tuple, without duplicates, of numbers 0, 1, .. below many."""
    return are_places(thing, many) and all([low < high for low, high in zip(thing, thing[1:])])


def tupled(value):
    """Give value with tuples for lists, at every depth."""
    return tuple([tupled(own) for own in value]) if isinstance(value, (list, tuple)) else value
