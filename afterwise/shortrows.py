"""Short rows by their numbers: the rows over asks in their order, counted from the empty one on."""


def short_row(asks, number):
    """The row of a number."""
    letters = []
    while number > 0:
        number, place = divmod(number - 1, len(asks))
        letters.append(asks[place])
    return "".join(letters[::-1])


def number_of_rows(asks, length):
    """How many rows have at most as many asks as the length."""
    many = 1
    for _ in range(length):
        many = many * len(asks) + 1
    return many
