"""What kind a thing is, whatever is handed in."""


def is_whole(thing):
    """True where the thing is a whole number: an int that is no truth."""
    return isinstance(thing, int) and not isinstance(thing, bool)


def is_from_to(thing, low, high):
    """True where the thing is a whole number from low to high."""
    return is_whole(thing) and low <= thing <= high


def is_tuple(thing, low, high):
    """True where the thing is a tuple of low to high parts."""
    return isinstance(thing, tuple) and low <= len(thing) <= high


def is_word(thing, words):
    """True where the thing is one of these texts."""
    return isinstance(thing, str) and thing in words


def is_rising(thing, size):
    """True where the thing is a rising tuple of unlike whole numbers from 0 on below size."""
    if not isinstance(thing, tuple):
        return False
    least = 0
    for number in thing:
        if not is_from_to(number, least, size - 1):
            return False
        least = number + 1
    return True
