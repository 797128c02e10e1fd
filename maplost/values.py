"""What kinds values are: the checks that several modules need."""


def is_int(value):
    """Whether any value is an integer; True and False are none."""
    return type(value) is int


def is_below(value, bound):
    """Whether any value is an integer from 0 on below the bound."""
    return type(value) is int and 0 <= value < bound


def is_list(value):
    """Whether any value can stand where a list is expected."""
    return type(value) in (list, tuple)


def is_tuple(value, many):
    """Whether any value is a tuple of so many items."""
    return type(value) is tuple and len(value) == many


def is_number(word, most):
    """Whether a string is a decimal number of 1 to `most` figures without a leading zero."""
    if not 1 <= len(word) <= most or not all([sign in "0123456789" for sign in word]):
        return False
    return word == "0" or word[0] != "0"


def are_different(values):
    """Whether no two of some integers, strings, and tuples of these are equal."""
    return len(set(values)) == len(values)


def is_ascending(values):
    """Whether some integers, or strings, or tuples of such, are ascending and no two of them are equal."""
    return all([values[k] < values[k + 1] for k in range(len(values) - 1)])
