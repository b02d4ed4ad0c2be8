"""The kinds of values that functions return."""


def is_number(value):
    return type(value) is int


def is_bool(value):
    return type(value) is bool


def is_string(value):
    return type(value) is str


def list_of(is_one):
    return lambda value: type(value) is list and all(is_one(one) for one in value)


def tuple_of(*are_items):
    return lambda value: (type(value) is tuple and len(value) == len(are_items)
                          and all(is_one(one) for is_one, one in zip(are_items, value)))


def none_or(is_one):
    return lambda value: value is None or is_one(value)


NUMBERS = list_of(is_number)
NUMBER_LISTS = list_of(NUMBERS)
LINES = list_of(tuple_of(is_number, is_number))
WEBS = tuple_of(is_number, LINES, NUMBER_LISTS)
