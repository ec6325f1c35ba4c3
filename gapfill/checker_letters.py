"""The checker's own telling of things: parts, letters, entries, rules.

The checker shares nothing with the rest of the program, so that a fault there isn't taken for right here.
"""

SIGNS = "abcdefghijklmnopqrstuvwxyz0123456789 "

# From where to where the numbers of each kind go.
NUMBERS = {
    "key": (0, 9999),
    "number": (1, 9999),
    "next": (1, 10000),
    "past": (0, 10000),
    "round": (0, 999),
    "pause": (3, 60),
    "wide": (1, 99),
}

WORDS = {
    "side": ("a", "b"),
    "make": ("plain", "windowed"),
}

# What stands behind the word of a body, of an entry, of a row's deed.
BODIES = {
    "word": ("text",),
    "beat": ("key",),
    "test": ("number",),
    "ask": ("number", "key"),
    "fill": ("next",),
    "hello": ("round", "key", "next", "past", "truth", "truth"),
    "bye": (),
}

ENTRIES = {
    "tell": ("text",),
    "word": (),
    "own": (),
    "skip": ("next",),
    "heard": ("text", "truth"),
    "got": ("next",),
    "round": ("next",),
    "lost": (),
}

DEEDS = {
    "open": ("truth",),
    "tell": ("text",),
    "take": ("letter",),
    "beat": (),
    "fall": (),
    "close": (),
}


def is_part(thing, kind):
    """Whether the thing is one of this kind."""
    if kind == "letter":
        return is_letter(thing)
    if kind == "truth":
        return type(thing) == bool
    if kind == "text":
        return type(thing) == str and 1 <= len(thing) <= 20 and all([sign in SIGNS for sign in thing])
    if kind in WORDS:
        return type(thing) == str and thing in WORDS[kind]
    low, high = NUMBERS[kind]
    return type(thing) == int and low <= thing <= high


def are_parts(thing, kinds):
    """Whether the thing is a tuple of parts of these kinds, one by one."""
    if type(thing) != tuple or len(thing) != len(kinds):
        return False
    return all([is_part(part, kind) for part, kind in zip(thing, kinds)])


def word_of(thing):
    """The word that the tuple begins with; one without signs of all else."""
    if type(thing) != tuple or len(thing) == 0:
        return ""
    word = thing[0]
    return word if type(word) == str else ""


def is_entry(thing):
    """Whether it is an entry of a store."""
    word = word_of(thing)
    return word in ENTRIES and are_parts(thing[1:], ENTRIES[word])


def is_deed(thing):
    """Whether it is the deed of a trace's row."""
    word = word_of(thing)
    return word in DEEDS and are_parts(thing[1:], DEEDS[word])


def is_body(thing):
    """Whether it is the body of some letter."""
    word = word_of(thing)
    if word not in BODIES or not are_parts(thing[1:], BODIES[word]):
        return False
    # The last number that is asked for is 0, or not below the first.
    return word != "ask" or thing[2] == 0 or thing[2] >= thing[1]


def is_letter(thing):
    """Whether it is a letter."""
    if type(thing) != tuple or len(thing) != 4:
        return False
    if not are_parts(thing[:3], ("side", "key", "truth")) or not is_body(thing[3]):
        return False
    _, number, again, body = thing
    if body[0] in ("hello", "bye"):
        return number == 0 and not again
    if number == 0:
        return False
    if body[0] == "fill":
        return again and body[1] > number
    return body[0] == "word" or not again


def is_rule(thing):
    """Whether it is the name, the make, the pause and the width of a side."""
    return are_parts(thing, ("side", "make", "pause", "wide"))


def is_same(thing, right):
    """Whether the thing is the right one, part by part and kind by kind."""
    if type(right) == tuple:
        if type(thing) != tuple or len(thing) != len(right):
            return False
        return all([is_same(part, beside) for part, beside in zip(thing, right)])
    if type(right) == bool:
        return type(thing) == bool and thing == right
    if type(right) == int:
        return type(thing) == int and thing == right
    return type(thing) == str and thing == right
