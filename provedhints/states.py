"""States: a value for each variable, and the one number that stands for them."""


def how_many_states(sizes):
    product = 1
    for size in sizes:
        product = product * size
    return product


def number_of(sizes, values):
    number = 0
    weight = 1
    for v in range(len(sizes)):
        number = number + weight * values[v]
        weight = weight * sizes[v]
    return number


def values_of(sizes, number):
    values = []
    rest = number
    for size in sizes:
        values.append(rest % size)
        rest = rest // size
    return values
