"""Reading texts letter by letter, with the words that must not occur in them."""


class Reader:
    """The states in which a text over the letters below size can be, state 0 before its first letter.

    rows[state][letter] is the state that follows; ends[state] says whether one of the words ends there.
    """

    def __init__(self, words, size):
        self.size = size
        self.rows = [[None] * size]
        self.ends = [False]
        for word in words:
            self.grow(word)
        self.complete()

    def grow(self, word):
        """Give each beginning of the word a state of its own."""
        state = 0
        for letter in word:
            if self.rows[state][letter] is None:
                self.rows[state][letter] = len(self.rows)
                self.rows.append([None] * self.size)
                self.ends.append(False)
            state = self.rows[state][letter]
        self.ends[state] = True

    def complete(self):
        """Fill the rows: where no word goes on, the longest end of what was read that begins a word does.

        The state of that end is shorter, so its row is filled before.
        """
        backs = [0] * len(self.rows)
        queue = [0]
        at = 0
        while at < len(queue):
            state = queue[at]
            at += 1
            for letter in range(self.size):
                back = 0 if state == 0 else self.rows[backs[state]][letter]
                after = self.rows[state][letter]
                if after is None:
                    self.rows[state][letter] = back
                else:
                    backs[after] = back
                    self.ends[after] = self.ends[after] or self.ends[back]
                    queue.append(after)

    def moves(self):
        """For each state the list of pairs (letter, state that follows) that complete no word."""
        return [[(letter, after) for letter, after in enumerate(row) if not self.ends[after]] for row in self.rows]
