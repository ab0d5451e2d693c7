"""Rule sets, which replace each letter by a text."""

from mustoccur.avoider import letter_block, modulus
from mustoccur.errors import InvalidRules, InvalidText, TooLarge
from mustoccur.patterns import LONGEST_TEXT, check_count, check_text, is_text

MOST_IMAGES = 400
LONGEST_IMAGE = 64
MOST_STEPS = 400


def is_image(value, size):
    """Whether any value is a text that can be an image among size images."""
    if not is_text(value) or not 1 <= len(value) <= LONGEST_IMAGE:
        return False
    return max(value) < size


def are_images(value):
    """Whether any value is the images of a rule set."""
    if not isinstance(value, (list, tuple)) or not 1 <= len(value) <= MOST_IMAGES:
        return False
    return all([is_image(image, len(value)) for image in value])


class Rules:
    """A rule set."""

    def __init__(self, images):
        if not are_images(images):
            raise InvalidRules(images)
        self.table = tuple(images)

    def __eq__(self, other):
        return isinstance(other, Rules) and self.table == other.table

    def images(self):
        """The texts that replace the letters, by letter."""
        return list(self.table)

    def apply(self, text):
        """The text with each letter replaced by its image."""
        check_text(text)
        if not all([letter < len(self.table) for letter in text]):
            raise InvalidText(text)
        if sum([len(self.table[letter]) for letter in text]) > LONGEST_TEXT:
            raise TooLarge(LONGEST_TEXT)
        return tuple([new for letter in text for new in self.table[letter]])

    def check_letter(self, letter):
        """Raise InvalidCount if the letter has no image."""
        check_count(letter, 0, len(self.table) - 1)

    def all_lengths(self, steps):
        """A list: at index k the list of how many letters each letter becomes after k steps, for k up to steps."""
        rows = [[1 for image in self.table]]
        for step in range(steps):
            row = rows[-1]
            rows.append([sum([row[letter] for letter in image]) for image in self.table])
        return rows

    def length(self, letter, steps):
        """How many letters the letter becomes after so many replacements."""
        self.check_letter(letter)
        check_count(steps, 0, MOST_STEPS)
        return self.all_lengths(steps)[-1][letter]

    def letter_at(self, letter, steps, index):
        """The letter at this index of what the letter becomes after so many replacements."""
        self.check_letter(letter)
        check_count(steps, 0, MOST_STEPS)
        rows = self.all_lengths(steps)
        check_count(index, 0, rows[-1][letter] - 1)
        for row in reversed(rows[:-1]):
            letter, index = self.within_image(letter, row, index)
        return letter

    def within_image(self, letter, row, index):
        """The letter of the image that holds this index, if each becomes as long as row says, and the index in it."""
        for new in self.table[letter]:
            if index < row[new]:
                break
            index -= row[new]
        return new, index

    def is_growing(self, letter):
        """Whether the image of the letter begins with it and has at least two letters."""
        self.check_letter(letter)
        image = self.table[letter]
        return image[0] == letter and len(image) > 1


def avoiding_rules(count):
    """The rule set that replaces each letter of the avoiding text by its letter block."""
    size = modulus(count)
    return Rules([letter_block(count, letter) for letter in range(size * size)])
