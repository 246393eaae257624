"""Whole numbers, labels and sequences."""

LETTERS = "abcdefghijklmnopqrstuvwxyz"
LONGEST_LABEL = 6


def is_whole(thing, low, high):
    """Whether the thing is a whole number from low to high."""
    return isinstance(thing, int) and not isinstance(thing, bool) and low <= thing <= high


def is_label(thing):
    """Whether the thing is a str of one to six letters, each from a to z."""
    if not isinstance(thing, str) or not 1 <= len(thing) <= LONGEST_LABEL:
        return False
    return thing.isascii() and thing.isalpha() and thing.islower()


def is_sequence(thing):
    """Whether the thing is a list or a tuple."""
    return isinstance(thing, (list, tuple))


def label_at(index):
    """The label that has this index: shorter ones come first, then the alphabet counts."""
    letters = []
    left = index + 1
    while left > 0:
        # There is no letter for nothing, so each place counts from 1 to 26 and not from 0 to 25.
        left, letter = divmod(left - 1, len(LETTERS))
        letters.append(LETTERS[letter])
    return "".join(letters[::-1])


def fresh_labels(taken, many):
    """The first so many labels, in order, that are not taken."""
    barred = set(taken)
    found = []
    index = 0
    while len(found) < many:
        label = label_at(index)
        if label not in barred:
            found.append(label)
        index += 1
    return tuple(found)


def is_count(thing):
    """Whether the thing is a whole number from 0, of any size."""
    return is_whole(thing, 0, thing)


def is_positive(thing):
    """Whether the thing is a whole number from 1, of any size."""
    return is_whole(thing, 1, thing)
