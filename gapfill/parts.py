"""The parts of a written row: how numbers and truths are written, and read again."""

FIGURES = "0123456789"

# No number that is written in a row may have more: 10000 is the greatest one.
MOST_FIGURES = 5


def show_part(part):
    """A number, a truth or a text, as it is written."""
    if type(part) == bool:
        return "yes" if part else "no"
    return str(part)


def show_parts(parts):
    """All of them, with a comma between."""
    return ",".join([show_part(part) for part in parts])


def is_number(text):
    """Whether a number is so written: figures, without noughts ahead but 0 itself."""
    if text == "" or not all([sign in FIGURES for sign in text]):
        return False
    return text == "0" or text[0] != "0"


def read_part(text):
    """The number or the truth that is so written; None of all else, and of a number that is too great."""
    if text == "yes":
        return True
    if text == "no":
        return False
    if is_number(text) and len(text) <= MOST_FIGURES:
        return int(text)
    return None


def read_number(text):
    """The number that is so written, however many figures it has; None of all else."""
    if not is_number(text):
        return None
    # Figure by figure: Python's own reading refuses thousands of them at once.
    number = 0
    for figure in text:
        number = 10 * number + FIGURES.find(figure)
    return number
