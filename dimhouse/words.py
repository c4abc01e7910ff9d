"""Single words of a text: names, labels, values and atoms."""

# 2 ** 40, the first whole number that is no value
WIDE = 1099511627776

LETTERS = "abcdefghijklmnopqrstuvwxyz"
FIGURES = "0123456789"

MOST_OF_NAME = 6
MOST_OF_LABEL = 8
MOST_OF_VALUE = 13


def is_made_of(text, signs, most):
    """Whether the text has 1 to `most` signs, all of them among `signs`."""
    return 1 <= len(text) <= most and all([sign in signs for sign in text])


def is_name(text):
    """Whether the text is a name."""
    return is_made_of(text, LETTERS, MOST_OF_NAME)


def is_label(text):
    """Whether the text is a label."""
    return is_made_of(text, LETTERS + FIGURES, MOST_OF_LABEL)


def value_of(word):
    """The value that the word writes, or None."""
    if not is_made_of(word, FIGURES, MOST_OF_VALUE):
        return None
    if word.startswith("0") and word != "0":
        return None
    number = int(word)
    return number if number < WIDE else None


def atom_of(word):
    """The atom that the word writes, a name or a value, or None."""
    return word if is_name(word) else value_of(word)
