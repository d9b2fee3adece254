"""Names, signs and places, and the numbers that bound the whole program."""

LONGEST = 1000
DEEPEST = 60
MOST = 200
STANDS = 2000
LAST_BEAT = 10 ** 60

_LETTERS = "abcdefghijklmnopqrstuvwxyz"


def is_whole(thing):
    """Whether a thing is a whole number; a truth is none."""
    return isinstance(thing, int) and not isinstance(thing, bool)


def is_within(thing, least, most):
    """Whether a thing is a whole number from least to most."""
    return is_whole(thing) and least <= thing <= most


def is_listed(thing):
    """Whether a thing is a list or a tuple."""
    return isinstance(thing, (list, tuple))


def is_just(thing, told):
    """Whether a thing, of anything, is what is told, of texts, whole numbers, lists and tuples; kinds too."""
    if not isinstance(told, (list, tuple)):
        # True equals 1, and so does 1.0.
        return is_whole(thing) == is_whole(told) and thing == told
    if not is_listed(thing) or isinstance(thing, list) != isinstance(told, list) or len(thing) != len(told):
        return False
    return all([is_just(part, due) for part, due in zip(thing, told)])


def are_letters(thing):
    """Whether a thing is a text of small letters, a to z, and of nothing else."""
    return isinstance(thing, str) and all([letter in _LETTERS for letter in thing])


def is_name(thing):
    """Whether a thing is a text of one to eight small letters."""
    return are_letters(thing) and 1 <= len(thing) <= 8


def are_signs(thing):
    """Whether a thing is a text of two to four unlike small letters, rising."""
    if not are_letters(thing) or not 2 <= len(thing) <= 4:
        return False
    return all([thing[at - 1] < thing[at] for at in range(1, len(thing))])


def is_sign(signs, thing):
    """Whether a thing is one of the signs."""
    return isinstance(thing, str) and len(thing) == 1 and thing in signs


def is_place(thing):
    """Whether a thing is a tuple of a name and a whole number from 0 on."""
    if not isinstance(thing, tuple) or len(thing) != 2:
        return False
    return is_name(thing[0]) and is_whole(thing[1]) and thing[1] >= 0
