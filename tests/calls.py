"""How tests call functions: with lists for tuples, by name, and with things that are spoilt in one place."""

import copy
import inspect

import samples


def shown(error):
    """Show an error as the document does: its class, and by name what it keeps."""
    kept = ", ".join([f"{name}={value!r}" for name, value in vars(error).items()])
    return f"raises {type(error).__name__}({kept})"


def outcome(function, *args, **named):
    """Show what a call returns, so that 1 and True, a list and a tuple, are told apart, or what it raises."""
    try:
        return repr(function(*args, **named))
    except (LookupError, ValueError) as error:
        return shown(error)


def tupled(value):
    """Give value with tuples for lists, at every depth."""
    return tuple([tupled(own) for own in value]) if isinstance(value, (list, tuple)) else value


def told_otherwise(name, value):
    """Give what may be passed for value under this name: lists at every depth, and at every other depth alone."""
    if name == "thing":
        return [value]
    outer = list(value) if isinstance(value, tuple) else value
    inner = tuple([samples.listed(own) for own in value]) if isinstance(value, tuple) else value
    return [samples.listed(value), outer, inner]


def check_calls(case, function, *args):
    """Check that a call gives the same however its arguments are passed, that it changes none, and gives new lists."""
    names = list(inspect.signature(function).parameters)
    told = outcome(function, *args)
    case.assertEqual(outcome(function, **dict(zip(names, args))), told)
    case.assertEqual(outcome(function, **dict(reversed(list(zip(names, args))))), told)
    for row in zip(*[told_otherwise(name, value) + [value] * 3 for name, value in zip(names, args)]):
        kept = copy.deepcopy(row)
        case.assertEqual(outcome(function, *row), told, (function, args))
        case.assertEqual(repr(row), repr(kept), (function, args))
    if told.startswith("["):
        function(*args).append(None)
        case.assertEqual(outcome(function, *args), told)


def spoilt(value):
    """Go through what comes of value if in one place what stands there is made something that it must not be."""
    if isinstance(value, tuple):
        yield list(value)
        yield None
        for at, own in enumerate(value):
            for other in spoilt(own):
                yield value[:at] + (other,) + value[at + 1:]
    elif isinstance(value, bool):
        yield int(value)
        yield str(value)
    elif isinstance(value, int):
        yield bool(value)
        yield str(value)
        yield (value,)
        yield -1


def nests():
    """Go through nests of tuples and of lists, to just one hundred levels."""
    for made in (tuple, list):
        for deep in (1, 2, 3, 50, 99):
            yield samples.nested(made, deep)


def check_no_things(case, asked, good):
    """Check that asked, of one value, holds for none of what is odd, nor for what good is if spoilt in one place."""
    case.assertIs(asked(good), True, good)
    for thing in samples.ODD_THINGS + list(nests()) + list(spoilt(good)):
        case.assertIs(asked(thing), False, thing)
    if isinstance(good, tuple):
        for at in range(len(good)):
            for nest in nests():
                thing = good[:at] + (nest,) + good[at + 1:]
                case.assertIs(asked(thing), False, thing)
