"""Texts as byte values, and back."""

from mustoccur.errors import ParseError
from mustoccur.patterns import GREATEST_LETTER, LONGEST_TEXT, check_text, is_plain_integer

BASE = 128
GREATEST_BYTE = 255
MOST_DIGITS = 3


def pack_letter(letter):
    """The byte values of a letter."""
    values = [letter % BASE]
    rest = letter // BASE
    while rest > 0:
        values = [rest % BASE + BASE] + values
        rest //= BASE
    return values


def pack(text):
    """The text as a tuple of byte values."""
    check_text(text)
    return tuple([value for letter in text for value in pack_letter(letter)])


def number_of(digits):
    """The number that has these digits, the most significant first."""
    number = 0
    for digit in digits:
        number = number * BASE + digit
    return number


def fits(member, digits, letters):
    """Whether any value can stand behind these letters and these first digits of the next one."""
    if not is_plain_integer(member) or not 0 <= member <= GREATEST_BYTE:
        return False
    if digits == [] and (member == BASE or len(letters) == LONGEST_TEXT):
        return False
    if member >= BASE:
        return len(digits) < MOST_DIGITS - 1
    return number_of(digits + [member]) <= GREATEST_LETTER


def unpack(values):
    """The text that any value, if it is byte values of one, stands for."""
    if not isinstance(values, (list, tuple)):
        raise ParseError(0)
    letters = []
    digits = []
    for index, member in enumerate(values):
        if not fits(member, digits, letters):
            raise ParseError(index)
        digits.append(member % BASE)
        if member < BASE:
            letters.append(number_of(digits))
            digits = []
    if digits != []:
        raise ParseError(len(values))
    return tuple(letters)
