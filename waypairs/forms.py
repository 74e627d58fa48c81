"""The forms of names and numbers, and copies of any values."""

SMALL = "abcdefghijklmnopqrstuvwxyz"
LARGE = "ABCDEFGHIJKLMNOPQRSTUVWXYZ"
DIGITS = "0123456789"
NAME_LETTERS = 8
# The least numbers from 0 on with more digits than a mark value or a default may have.
MARK_BOUND = 10 ** 30
DEFAULT_BOUND = 10 ** 12


def is_integer(value):
    """Whether any value is an integer; True and False are none."""
    return isinstance(value, int) and not isinstance(value, bool)


def is_index(value, count):
    """Whether any value is an integer from 0 to below count."""
    return is_integer(value) and 0 <= value < count


def is_word(value, most):
    """Whether any value is a string of 1 to `most` letters a to z."""
    return isinstance(value, str) and 1 <= len(value) <= most and all([letter in SMALL for letter in value])


def is_field_name(value):
    """Whether any value is a field name."""
    return is_word(value, NAME_LETTERS)


def is_kind_name(value):
    """Whether any value is a kind name."""
    if not isinstance(value, str) or not 1 <= len(value) <= NAME_LETTERS:
        return False
    return value[0] in LARGE and all([letter in SMALL for letter in value[1:]])


def is_mark_value(value):
    """Whether any value is a mark value."""
    return is_integer(value) and -MARK_BOUND < value < MARK_BOUND


def is_default(value):
    """Whether any value can be the default of a mark."""
    return is_integer(value) and -DEFAULT_BOUND < value < DEFAULT_BOUND


def are_different(names):
    """Whether no name stands twice in a list or tuple of strings."""
    return len(set(names)) == len(names)


def is_number_word(word, digits):
    """Whether a word is a number as texts write it, with at most this many digits."""
    bare = word[1:] if word[:1] == "-" else word
    if not 1 <= len(bare) <= digits or not all([letter in DIGITS for letter in bare]):
        return False
    return bare[0] != "0" or word == "0"


def is_count_word(word, digits):
    """Whether a word is a number from 0 on as texts write it, with at most this many digits."""
    return word[:1] != "-" and is_number_word(word, digits)


def copied_value(value):
    """A copy of any value, which later changes of its lists and dicts do not reach."""
    if isinstance(value, list):
        return [copied_value(part) for part in value]
    if isinstance(value, tuple):
        return tuple([copied_value(part) for part in value])
    if isinstance(value, dict):
        return {key: copied_value(value[key]) for key in value}
    return value
