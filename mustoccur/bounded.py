"""Texts that avoid a pattern whose values are short and over few letters."""

from mustoccur.errors import TooLarge
from mustoccur.patterns import check_count, check_filled_pattern, check_text, substitute, variables
from mustoccur.reader import Reader

MOST_WORK = 4096


def check_bounds(pattern, letters, longest):
    """Check the arguments that all functions of this module have."""
    check_filled_pattern(pattern)
    check_count(letters, 1, 4)
    check_count(longest, 1, 4)


def check_work(pattern, letters, longest):
    """Raise TooLarge if the pattern has too many values with these bounds."""
    several = 0
    same_size = 1
    for size in range(longest):
        same_size *= letters
        several += same_size
    many = 1
    for name in variables(pattern):
        many *= several
    if many * longest * len(pattern) > MOST_WORK:
        raise TooLarge(MOST_WORK)


def short_texts(letters, longest):
    """All non-empty texts of at most this length over the letters below this number."""
    found = []
    level = [()]
    for size in range(longest):
        level = [text + (letter,) for text in level for letter in range(letters)]
        found += level
    return found


def list_blocked(pattern, letters, longest):
    """The blocked texts, ascending, for arguments that have been checked."""
    check_work(pattern, letters, longest)
    rows = [{}]
    for name in variables(pattern):
        rows = [{**row, name: text} for row in rows for text in short_texts(letters, longest)]
    return sorted(set([substitute(pattern, row) for row in rows]))


def open_moves(pattern, letters, longest):
    """For each state of a reader the pairs (letter, state that follows) with which a text stays open."""
    return Reader(list_blocked(pattern, letters, longest), letters).moves()


def blocked_texts(pattern, letters, longest):
    """The blocked texts, ascending."""
    check_bounds(pattern, letters, longest)
    return list_blocked(pattern, letters, longest)


def is_open(pattern, letters, longest, text):
    """Whether the text has only these letters and no block of it is a blocked text."""
    check_bounds(pattern, letters, longest)
    check_text(text)
    moves = open_moves(pattern, letters, longest)
    state = 0
    for letter in text:
        state = dict(moves[state]).get(letter)
        if state is None:
            return False
    return True


def count_open(pattern, letters, longest, length):
    """The number of open texts of this length."""
    check_bounds(pattern, letters, longest)
    check_count(length, 0, 200)
    moves = open_moves(pattern, letters, longest)
    counts = {0: 1}
    for step in range(length):
        later = {}
        for state in counts:
            for letter, after in moves[state]:
                later[after] = later.get(after, 0) + counts[state]
        counts = later
    return sum(counts.values())


def longest_open(pattern, letters, longest):
    """("finite", the first of the longest open texts) or ("endless", prefix, cycle)."""
    check_bounds(pattern, letters, longest)
    moves = open_moves(pattern, letters, longest)
    heights = finite_heights(moves)
    if 0 in heights:
        return "finite", longest_way(moves, heights)
    return endless_way(moves, heights)


def finite_heights(moves):
    """A dict: the greatest number of letters that can follow, for each state where there is a greatest one."""
    before = [[] for row in moves]
    left = [len(row) for row in moves]
    for state, row in enumerate(moves):
        for letter, after in row:
            before[after].append(state)
    queue = [state for state, row in enumerate(moves) if row == []]
    heights = {}
    at = 0
    while at < len(queue):
        state = queue[at]
        at += 1
        heights[state] = max([heights[after] + 1 for letter, after in moves[state]], default=0)
        for earlier in before[state]:
            left[earlier] -= 1
            if left[earlier] == 0:
                queue.append(earlier)
    return heights


def longest_way(moves, heights):
    """The letters of the first of the longest ways from state 0 on."""
    text = []
    state = 0
    while heights[state] > 0:
        ways = [move for move in moves[state] if heights[move[1]] == heights[state] - 1]
        letter, state = ways[0]
        text.append(letter)
    return tuple(text)


def endless_way(moves, heights):
    """("endless", prefix, cycle) of a way that never ends, from state 0 on."""
    seen = {}
    text = []
    state = 0
    while state not in seen:
        seen[state] = len(text)
        # A state without a height has a move to another one without.
        ways = [move for move in moves[state] if move[1] not in heights]
        letter, state = ways[0]
        text.append(letter)
    return "endless", tuple(text[:seen[state]]), tuple(text[seen[state]:])
