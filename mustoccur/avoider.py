"""The avoiding text: an endless text in which no avoidable pattern of so many variables occurs."""

from mustoccur.errors import NoBlock
from mustoccur.patterns import LONGEST_TEXT, MOST_VARIABLES, check_count, is_plain_integer

GREATEST_START = 10 ** 18


def is_prime(number):
    """Whether a number from 2 on is a prime."""
    return all([number % divisor != 0 for divisor in range(2, number)])


def modulus(count):
    """The length of the letter blocks for so many variables: the least prime that is at least 2 * count + 2."""
    check_count(count, 1, MOST_VARIABLES)
    number = 2 * count + 2
    while not is_prime(number):
        number += 1
    return number


def letter_within(size, letter, index):
    """The letter at this index of the letter block of a letter; the block has size letters."""
    return index * size + (letter // size + letter % size * index) % size


def letter_block(count, letter):
    """The letter block of a letter."""
    size = modulus(count)
    check_count(letter, 0, size * size - 1)
    return tuple([letter_within(size, letter, index) for index in range(size)])


def stretch(size, start, length):
    """A block of the avoiding text whose letter blocks have size letters, with a start of any size."""
    if length == 0:
        return ()
    if start == 0 and length == 1:
        return (0,)
    low = start // size
    high = (start + length - 1) // size
    letters = [letter_within(size, letter, index)
               for letter in stretch(size, low, high - low + 1) for index in range(size)]
    return tuple(letters[start - low * size:start - low * size + length])


def avoiding_letter(count, index):
    """The letter of the avoiding text at this index."""
    size = modulus(count)
    check_count(index, 0, GREATEST_START)
    return stretch(size, index, 1)[0]


def avoiding_text(count, length, *, start=0):
    """The block of this length of the avoiding text that begins at index start."""
    size = modulus(count)
    check_count(length, 0, LONGEST_TEXT)
    check_count(start, 0, GREATEST_START)
    return stretch(size, start, length)


def letter_of(count, index, first, second):
    """The letter whose block has the letters first and second at index and the next one."""
    size = modulus(count)
    check_count(index, 0, size - 2)
    for at, letter in enumerate([first, second]):
        if not is_plain_integer(letter) or letter // size != index + at:
            raise NoBlock(first, second)
    # The second remainder minus the first one is letter % size; the first one then tells letter // size.
    low = (second - first) % size
    high = (first - low * index) % size
    return high * size + low
