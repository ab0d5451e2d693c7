"""Letters, texts, variables, patterns and values, and the checks of arguments that other modules share."""

from mustoccur.errors import InvalidCount, InvalidPattern, InvalidText, InvalidValues, InvalidVariables, TooLarge

VARIABLES = "abcdefghijklmnopqrstuvwxyz"
LONGEST_PATTERN = 40
MOST_VARIABLES = 8
LONGEST_TEXT = 4096
GREATEST_LETTER = 999999


def is_pattern(value):
    """Whether any value is a pattern."""
    if not isinstance(value, str) or len(value) > LONGEST_PATTERN:
        return False
    return len(set(value)) <= MOST_VARIABLES and all([name in VARIABLES for name in value])


def is_plain_integer(value):
    """Whether any value is an integer; for Python a bool is an int, for the document it is not."""
    return isinstance(value, int) and not isinstance(value, bool)


def is_letter(value):
    """Whether any value is a letter."""
    return is_plain_integer(value) and 0 <= value <= GREATEST_LETTER


def is_text(value):
    """Whether any value is a text."""
    if not isinstance(value, tuple) or len(value) > LONGEST_TEXT:
        return False
    return all([is_letter(letter) for letter in value])


def is_variable_set(value):
    """Whether any value is a variable set."""
    return isinstance(value, str) and value == "".join([name for name in VARIABLES if name in value])


def are_values(pattern, value):
    """Whether any value is values of the pattern."""
    names = variables(pattern)
    if not isinstance(value, dict) or len(value) != len(names):
        return False
    return all([name in value and is_text(value[name]) and value[name] != () for name in names])


def check_pattern(value):
    """Raise InvalidPattern if the value is not a pattern."""
    if not is_pattern(value):
        raise InvalidPattern(value)


def check_filled_pattern(value):
    """Raise InvalidPattern if the value is not a pattern, or is the empty one."""
    if not is_pattern(value) or value == "":
        raise InvalidPattern(value)


def check_text(value):
    """Raise InvalidText if the value is not a text."""
    if not is_text(value):
        raise InvalidText(value)


def check_variable_set(value):
    """Raise InvalidVariables if the value is not a variable set."""
    if not is_variable_set(value):
        raise InvalidVariables(value)


def check_count(value, least, most):
    """Raise InvalidCount if the value is not an integer from least to most."""
    if not is_plain_integer(value) or value < least or value > most:
        raise InvalidCount(value)


def variables(pattern):
    """The different variables of the pattern in the order of first occurrence."""
    check_pattern(pattern)
    return "".join([name for at, name in enumerate(pattern) if name not in pattern[:at]])


def normal(pattern):
    """The normal form of the pattern."""
    names = variables(pattern)
    return "".join([VARIABLES[names.index(name)] for name in pattern])


def delete(pattern, letters):
    """The pattern without the variables of a variable set."""
    check_pattern(pattern)
    check_variable_set(letters)
    return "".join([name for name in pattern if name not in letters])


def substitute(pattern, values):
    """The text that the pattern becomes."""
    check_pattern(pattern)
    if not are_values(pattern, values):
        raise InvalidValues(values)
    if sum([len(values[name]) for name in pattern]) > LONGEST_TEXT:
        raise TooLarge(LONGEST_TEXT)
    return tuple([letter for name in pattern for letter in values[name]])
