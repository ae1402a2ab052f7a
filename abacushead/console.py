"""The console: commands over stored sequences and the states of a row."""

from abacushead.choices import first_operations
from abacushead.effects import effect_of
from abacushead.errors import InvalidCommand, LimitExceeded, UnknownName
from abacushead.running import cost_of, run
from abacushead.sessions import is_name
from abacushead.shortest import distance, shortest
from abacushead.texts import decimal, format_effect, format_sequence, format_state, parse_sequence, parse_state

MAX_NAMES = 8

# What stands behind the first word of each command.
FORMS = {
    "set": ("name", "sequence"),
    "drop": ("name",),
    "names": (),
    "effect": ("name",),
    "same": ("name", "name"),
    "do": ("name", "state"),
    "distance": ("state", "state"),
    "way": ("state", "state"),
    "first": ("state", "state"),
}


def store(console, name, sequence):
    """Store a sequence and return its cost."""
    if name not in console.kept and len(console.kept) >= MAX_NAMES:
        raise LimitExceeded(MAX_NAMES)
    console.kept[name] = sequence
    return decimal(cost_of(console.row, sequence))


def drop(console, name):
    """Remove a sequence."""
    del console.kept[name]
    return "ok"


def names(console):
    """Return the names in ascending order."""
    return " ".join(sorted(console.kept)) or "-"


def effect(console, name):
    """Return the effect of a sequence."""
    return format_effect(effect_of(console.row.base, console.kept[name]))


def same(console, one, other):
    """Return whether two sequences have the same effect."""
    effects = [effect_of(console.row.base, console.kept[name]) for name in (one, other)]
    return "yes" if effects[0] == effects[1] else "no"


def follow(console, name, start):
    """Return the state after a sequence."""
    return format_state(run(console.row, start, console.kept[name]))


def measure(console, start, goal):
    """Return the distance between two states."""
    return decimal(distance(console.row, start, goal))


def way(console, start, goal):
    """Return a cheapest sequence between two states."""
    return format_sequence(shortest(console.row, start, goal))


def first(console, start, goal):
    """Return the first operations of cheapest sequences."""
    return first_operations(console.row, start, goal) or "-"


ACTIONS = {
    "set": store,
    "drop": drop,
    "names": names,
    "effect": effect,
    "same": same,
    "do": follow,
    "distance": measure,
    "way": way,
    "first": first,
}


class Console:
    """Sequences by name, and commands over them and over the states of a row."""

    def __init__(self, row):
        self.row = row
        self.kept = {}

    def __len__(self):
        return len(self.kept)

    def run(self, command):
        """Perform a command and return its answer."""
        words = words_of(command)
        texts = arguments_of(words)
        kinds = FORMS[words[0]]
        values = [value_of(self.row.base, kind, text) for kind, text in zip(kinds, texts)]
        if words[0] != "set":
            self.require_names(kinds, texts)
        action = ACTIONS[words[0]]
        return action(self, *values)

    def require_names(self, kinds, texts):
        """Raise UnknownName for the first name that is not stored."""
        for kind, text in zip(kinds, texts):
            if kind == "name" and text not in self.kept:
                raise UnknownName(text)


def words_of(command):
    """Return the words of a command."""
    if not isinstance(command, str) or "\n" in command:
        raise InvalidCommand(None)
    words = command.split(" ")
    if "" in words:
        raise InvalidCommand(None)
    return words


def arguments_of(words):
    """Return the texts behind the first word of a command, a sequence as one text."""
    word = words[0]
    if word not in FORMS:
        raise InvalidCommand(word)
    texts = words[1:]
    if word == "set" and len(texts) > 2:
        texts = [texts[0], " ".join(texts[1:])]
    if len(texts) != len(FORMS[word]):
        raise InvalidCommand(word)
    for kind, text in zip(FORMS[word], texts):
        if kind == "name" and not is_name(text):
            raise InvalidCommand(word)
    return texts


def value_of(base, kind, text):
    """Return the value of a text of this kind; a name is its own value."""
    if kind == "state":
        return parse_state(base, text)
    if kind == "sequence":
        return parse_sequence(text)
    return text
