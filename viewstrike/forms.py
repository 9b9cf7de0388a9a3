"""The plain forms of values that the definitions build on: integers and tuples."""


def is_number_of(value, many):
    """Return whether value is the number of one of many things that are numbered from 0."""
    return type(value) is int and 0 <= value < many


def is_one_of(value, numbers):
    """Return whether value is one of these integers."""
    # True == 1 in Python, but a boolean is never one of some integers here.
    return type(value) is int and value in numbers


def is_tuple_of(value, many):
    """Return whether value is a tuple of this many elements."""
    return type(value) is tuple and len(value) == many


def are_numbers_of(value, many):
    """Return whether value is a tuple, perhaps empty, of numbers of many things."""
    if type(value) is not tuple:
        return False
    return all([is_number_of(number, many) for number in value])


def is_ascending(some):
    """Return whether each of some things is greater than the one before it."""
    return all([low < high for low, high in zip(some, some[1:])])


def is_ascending_choice(value, numbers):
    """Return whether value is a strictly ascending tuple, perhaps empty, of some of these integers."""
    if type(value) is not tuple or not all([is_one_of(number, numbers) for number in value]):
        return False
    return is_ascending(value)
