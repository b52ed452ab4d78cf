"""Numbers as bits, the greatest bit first (point 3)."""


def bits_of(number, count):
    return [(number >> weight) & 1 for weight in range(count - 1, -1, -1)]


def number_of(bits):
    number = 0
    for bit in bits:
        number = 2 * number + bit
    return number
