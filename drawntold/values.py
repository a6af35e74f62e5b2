"""What the other modules ask of single values: integers, words, tuples with a word ahead.

A value is compared with the kind itself, since truths and objects of subclasses are no
integers, strings or tuples here.
"""

LONGEST_WORD = 8


def is_integer(value):
    """Whether a value is an integer."""
    return type(value) == int


def is_between(value, low, high):
    """Whether a value is an integer from low to high."""
    return type(value) == int and low <= value <= high


def is_word(value):
    """Whether a value is a string of 1 to 8 letters a to z."""
    if type(value) != str or not 1 <= len(value) <= LONGEST_WORD:
        return False
    return all("a" <= sign <= "z" for sign in value)


def is_tuple_of(value, size):
    """Whether a value is a tuple with so many members."""
    return type(value) == tuple and len(value) == size


def is_headed(value, word, size):
    """Whether a value is a tuple with so many members, the first of which is the word."""
    return is_tuple_of(value, size) and type(value[0]) == str and value[0] == word
