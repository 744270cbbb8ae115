"""Questions about anything whatever, which more than one file asks."""

LONGEST_NAME = 8
# This word means everybody, so nobody is called so.
EVERYBODY = "public"


def is_whole(thing, least):
    """Tell whether a thing is a whole number from the least one on."""
    return isinstance(thing, int) and not isinstance(thing, bool) and thing >= least


def is_row(thing, many):
    """Tell whether a thing is a tuple of so many parts."""
    return isinstance(thing, tuple) and len(thing) == many


def is_rising(row):
    """Tell whether each part is less than the next, so that all are unlike."""
    return all([one < other for one, other in zip(row, row[1:])])


def is_name(thing):
    """Tell whether a thing is a name."""
    if not isinstance(thing, str) or not 1 <= len(thing) <= LONGEST_NAME:
        return False
    # Letters beyond a to z can be alphabetic and lower, too.
    return thing.isascii() and thing.isalpha() and thing.islower() and thing != EVERYBODY


def are_names(thing):
    """Tell whether a thing is a tuple of names, rising and unlike."""
    if not isinstance(thing, tuple):
        return False
    return all([is_name(name) for name in thing]) and is_rising(thing)
