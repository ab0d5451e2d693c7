"""What the tests of several modules check in the same way."""

import copy
import inspect

from mustoccur.errors import ParseError


def check_interface(case, module, listed):
    """The module itself defines these functions, with these parameters."""
    for name, parameters in listed.items():
        with case.subTest(name=name):
            function = getattr(module, name)
            case.assertTrue(inspect.isfunction(function))
            case.assertEqual(list(inspect.signature(function).parameters), parameters)
            case.assertEqual(function.__module__, module.__name__)


def check_class(case, module, name, listed):
    """The module itself defines this class, and the class itself these methods, with these parameters after self."""
    kind = getattr(module, name)
    case.assertTrue(inspect.isclass(kind))
    case.assertEqual(kind.__module__, module.__name__)
    for method, parameters in listed.items():
        with case.subTest(name=name, method=method):
            case.assertTrue(inspect.isfunction(vars(kind)[method]))
            case.assertEqual(list(inspect.signature(vars(kind)[method]).parameters)[1:], parameters)


def check_refused(case, error, value, function, *given, **named):
    """The call raises this error, and its first attribute is the very value."""
    with case.subTest(function=function.__name__, value=str(value)[:60], given=str(given)[:80]):
        with case.assertRaises(error) as caught:
            function(*given, **named)
        case.assertIs(type(caught.exception), error)
        case.assertIs(list(vars(caught.exception).values())[0], value)


def offset_of(parse, value):
    """The offset of the ParseError that is raised, or None."""
    try:
        parse(value)
    except ParseError as error:
        return error.offset
    return None


def spoil(thing):
    """Change each list and each dict within the thing."""
    if isinstance(thing, (list, tuple)):
        for part in thing:
            spoil(part)
    if isinstance(thing, list):
        thing.append("spoiled")
    if isinstance(thing, dict):
        thing["spoiled"] = 1


def check_conventions(case, function, *given, **named):
    """Equal calls return equal results that are new, and the arguments stay as they are."""
    with case.subTest(function=function.__name__, given=str(given)[:80]):
        before = copy.deepcopy((given, named))
        first = function(*given, **named)
        kept = copy.deepcopy(first)
        case.assertEqual((given, named), before)
        spoil(first)
        case.assertEqual((given, named), before)
        case.assertEqual(function(*given, **named), kept)
        names = list(inspect.signature(function).parameters)
        by_name = {**dict(zip(names, given)), **named}
        case.assertEqual(function(**by_name), kept)
        case.assertEqual(function(**dict(reversed(by_name.items()))), kept)
