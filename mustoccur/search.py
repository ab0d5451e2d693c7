"""The search for values of a pattern that is not empty in a text.

The variables get their values in the order of first occurrence, each from its shortest value on. So the values are
found in the order of their lengths.
"""

from mustoccur.patterns import variables


def follow(text, names, here, values):
    """The index where the values of these names end if they stand in the text from index here on, or None."""
    for name in names:
        block = values[name]
        if text[here:here + len(block)] != block:
            return None
        here += len(block)
    return here


def letter_marks(text):
    """For each letter of the text the list of its indexes, ascending."""
    marks = {}
    for at, letter in enumerate(text):
        marks.setdefault(letter, []).append(at)
    return marks


def spreadable(counts, size):
    """A table: rows[k][room] says whether the variables from number k on can become longer by room letters in all.

    A variable that becomes longer by one letter takes as many letters as it has occurrences.
    """
    rows = [[room == 0 for room in range(size + 1)]]
    for count in reversed(counts):
        row = list(rows[0])
        for room in range(count, size + 1):
            row[room] = row[room] or row[room - count]
        rows = [row] + rows
    return rows


class Search:
    """A search that collects values in the list found, until their number reaches the limit.

    If whole is True, the values must use up the text, otherwise only a block of it.
    """

    def __init__(self, pattern, text, whole, limit):
        self.pattern = pattern
        self.text = text
        self.whole = whole
        self.limit = limit
        self.found = []
        self.failed = {}
        self.order = variables(pattern)
        self.starts = [pattern.index(name) for name in self.order] + [len(pattern)]
        self.counts = [pattern.count(name) for name in self.order]
        self.marks = letter_marks(text)
        self.spread = spreadable(self.counts, len(text)) if whole else []

    def tail(self, number):
        """The pattern from the first occurrence of the variable of this number on."""
        return self.pattern[self.starts[number]:]

    def collect(self, number, here, values, spots):
        """Find all ways to go on at index here of the text with the variable of this number.

        The variables before it have their values in values. For those that occur again, spots has all indexes of
        the text where their value stands.
        """
        state = self.state(number, here, values, spots)
        if state in self.failed:
            return
        before = len(self.found)
        self.try_lengths(number, here, values, spots)
        if state is not None and len(self.found) == before:
            self.failed[state] = True

    def state(self, number, here, values, spots):
        """What decides how the search goes on, or None if no other way leads to the same.

        Only a variable that does not occur again makes different ways equal. A value is written as its first index
        and its length, since the values themselves would fill the memory.
        """
        tail = self.tail(number)
        alive = [name for name in self.order[:number] if name in tail]
        if len(alive) == number:
            return None
        return number, here, tuple([(spots[name][0], len(values[name])) for name in alive])

    def try_lengths(self, number, here, values, spots):
        """Go on with each possible length of the variable of this number, the shortest first."""
        name = self.order[number]
        run = self.pattern[self.starts[number] + 1:self.starts[number + 1]]
        again = self.tail(number + 1).count(name)
        near = self.marks[self.text[here]]
        for length in self.lengths(number, here, values, spots):
            block = self.text[here:here + length]
            more = {**values, name: block}
            end = follow(self.text, run, here + length, more)
            if end is None or not self.ends_well(more):
                continue
            if again > 0:
                near = [at for at in near if self.text[at:at + length] == block]
                # A longer value stands at even fewer indexes.
                if len([at for at in near if at > end]) < again:
                    return
            self.go_on(number + 1, end, more, {**spots, name: near})
            if len(self.found) >= self.limit:
                return

    def go_on(self, number, here, values, spots):
        """Keep the values if they are complete, otherwise give the next variable its value."""
        if number == len(self.order):
            self.found.append(values)
        else:
            self.collect(number, here, values, spots)

    def ends_well(self, values):
        """Whether the end of the text does not contradict the values; only a search for the whole text knows it."""
        if not self.whole:
            return True
        end = len(self.text)
        for name in self.pattern[::-1]:
            if name not in values:
                return True
            end -= len(values[name])
            if follow(self.text, name, end, values) is None:
                return False
        return True

    def room(self, number, here, values):
        """How many letters are left if each variable from this number on has a value of one letter."""
        least = sum([len(values[name]) if name in values else 1 for name in self.tail(number)])
        return len(self.text) - here - least

    def lengths(self, number, here, values, spots):
        """The lengths, ascending, that the value of the variable of this number can have at index here."""
        room = self.room(number, here, values)
        count = self.counts[number]
        most = 1 + room // count
        if self.whole and number == len(self.order) - 1:
            return [most] if room % count == 0 else []
        lengths = self.lengths_to_next(number, here, most, spots)
        if not self.whole:
            return lengths
        return [length for length in lengths if self.spread[number + 1][room - count * (length - 1)]]

    def lengths_to_next(self, number, here, most, spots):
        """The lengths up to most behind which the next variable can stand, as far as its value is known."""
        start = self.starts[number]
        follower = self.pattern[start + 1:start + 2]
        if follower == self.order[number]:
            ends = self.marks[self.text[here]]
        elif follower in spots:
            ends = spots[follower]
        else:
            return list(range(1, most + 1))
        return [end - here for end in ends if here < end <= here + most]
