"""A console: a workspace that is used by lines of words."""

from mustoccur.errors import InvalidCommand, ParseError
from mustoccur.matching import find
from mustoccur.notation import format_entry, format_place, parse_line
from mustoccur.ranks import best_block
from mustoccur.workspace import PARTS, Workspace, is_name

DONE = "ok"
NOTHING = "none"
# How many names follow the first word; the lines of the words pattern and text have another form.
NAMES_AFTER = {
    "rename": 2, "remove": 1, "join": 3, "undo": 0, "redo": 0, "names": 0, "show": 1, "verdict": 1, "find": 2,
    "rank": 1}


def undo_last(box):
    """Take the last deed back."""
    box.undo()
    return DONE


def redo_last(box):
    """Do again what was taken back last."""
    box.redo()
    return DONE


def tell_names(box):
    """All names."""
    return " ".join(box.names()) if len(box) > 0 else NOTHING


def tell_entry(box, name):
    """The pattern or the text of this name."""
    return format_entry(box.entry(name))


def tell_verdict(box, name):
    """Whether the pattern of this name is avoidable, with the steps of a chain if it is not."""
    word, proof = box.verdict(name)
    return word if word == "avoidable" else " ".join([word] + proof)


def tell_place(box, name, other):
    """The first place of a pattern in a text."""
    pattern = box.named_pattern(name)
    text = box.named_text(other)
    place = find(pattern, text)
    return NOTHING if place is None else format_place(place)


def tell_rank(box, name):
    """The greatest rank of a block of a text."""
    return str(best_block(box.named_text(name))[0])


ANSWERS = {
    "undo": undo_last, "redo": redo_last, "names": tell_names, "show": tell_entry, "verdict": tell_verdict,
    "find": tell_place, "rank": tell_rank}


def read_entry(line):
    """The deed of a line that adds an entry."""
    try:
        return parse_line(line)
    except ParseError:
        raise InvalidCommand(line) from None


def read_command(line):
    """The words of any value, if it is a command; those of a deed are the deed itself."""
    if not isinstance(line, str):
        raise InvalidCommand(line)
    words = line.split(" ")
    if words[0] not in NAMES_AFTER:
        return read_entry(line)
    names = words[1:]
    if len(names) != NAMES_AFTER[words[0]] or not all([is_name(name) for name in names]):
        raise InvalidCommand(line)
    return tuple(words)


class Console:
    """A console with a workspace."""

    def __init__(self):
        self.box = Workspace()

    def run(self, line):
        """Do what the line, any value, says, and answer it."""
        command = read_command(line)
        if command[0] in PARTS:
            self.box.do(command)
            return DONE
        answer = ANSWERS[command[0]]
        names = command[1:]
        return answer(self.box, *names)

    def workspace(self):
        """The workspace itself."""
        return self.box
