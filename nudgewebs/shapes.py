"""Which shapes a value has that may be of any kind.

Items are compared only when all of them are known to be numbers, or tuples of numbers:
other values may have no order.
"""

MOST_QUANTITIES = 20
MOST_NUDGES = 8
MOST_ROWS = 60
GREATEST_NUMBER = 1000000
GREATEST_HEIGHT = 1000


def is_integer(value):
    """Whether any value is an integer; a bool is none [2]."""
    return isinstance(value, int) and not isinstance(value, bool)


def is_number_below(value, limit):
    """Whether any value is an integer from 0 to limit - 1."""
    return is_integer(value) and 0 <= value < limit


def is_tuple_below(value, first_limit, second_limit):
    """Whether any value is a tuple of two integers from 0 on, each below its limit."""
    if not isinstance(value, tuple) or len(value) != 2:
        return False
    return is_number_below(value[0], first_limit) and is_number_below(value[1], second_limit)


def are_below(value, limit):
    """Whether any value is a list of integers from 0 to limit - 1; it may be empty."""
    return isinstance(value, list) and all([is_number_below(one, limit) for one in value])


def are_ascending(values):
    """Whether each item of a list is less than the next one."""
    return all([one < following for one, following in zip(values, values[1:])])


def are_ascending_tuples(value, first_limit, second_limit):
    """Whether any value is an ascending list of tuples of two limited integers; it may be empty."""
    if not isinstance(value, list):
        return False
    if not all([is_tuple_below(one, first_limit, second_limit) for one in value]):
        return False
    return are_ascending(value)


def are_targets(value, count):
    """Whether any value is an ascending list of one or more of `count` quantities."""
    return are_below(value, count) and len(value) > 0 and are_ascending(value)


def are_all_below(value, count):
    """Whether any value is a list of all of `count` quantities, each once."""
    return are_below(value, count) and sorted(value) == list(range(count))


def are_nudges(value, count):
    """Whether any value is a list of nudges that act on `count` quantities [4]."""
    if not isinstance(value, list) or len(value) > MOST_NUDGES:
        return False
    return all([are_targets(nudge, count) for nudge in value])


def has_web_shape(value):
    """Whether any value is a web [4]."""
    if not isinstance(value, tuple) or len(value) != 3:
        return False
    count, pairs, nudges = value
    if not is_integer(count) or not 1 <= count <= MOST_QUANTITIES:
        return False
    return are_ascending_tuples(pairs, count, count) and are_nudges(nudges, count)


def are_integers(value, many):
    """Whether any value is a list of just so many integers."""
    return isinstance(value, list) and len(value) == many and all([is_integer(one) for one in value])


def are_push_rows(value, many):
    """Whether any value is a list of 0 to 60 lists of pushes, one for each of `many` nudges."""
    if not isinstance(value, list) or len(value) > MOST_ROWS:
        return False
    return all([are_integers(row, many) for row in value])


def are_line_numbers(value, many):
    """Whether any value is a list of just so many numbers that lines can have [6]."""
    if not are_integers(value, many):
        return False
    return all([number != 0 and abs(number) <= GREATEST_NUMBER for number in value])


def has_filling_shape(web, value):
    """Whether any value is a filling [6] of what is known to be a web."""
    if not isinstance(value, tuple) or len(value) != 2:
        return False
    _, pairs, nudges = web
    numbers, strengths = value
    if not are_line_numbers(numbers, len(pairs)):
        return False
    if not isinstance(strengths, list) or len(strengths) != len(nudges):
        return False
    return all([are_line_numbers(row, len(nudge)) for row, nudge in zip(strengths, nudges)])


def are_heights(value, many):
    """Whether any value is a list of just so many heights or prices [14]."""
    return are_below(value, GREATEST_HEIGHT + 1) and len(value) == many


def has_hill_shape(web, value):
    """Whether any value is a hill [14] of what is known to be a web."""
    if not isinstance(value, tuple) or len(value) != 2:
        return False
    heights, prices = value
    return are_heights(heights, web[0]) and are_heights(prices, len(web[2]))
