"""Integers modulo a prime: primes, inverses, and rows of field elements."""

LEAST_PRIME = 2
GREATEST_PRIME = 10007


def is_between(value, low, high):
    """Whether any value is an integer from low to high; a boolean is not an integer."""
    return isinstance(value, int) and not isinstance(value, bool) and low <= value <= high


def are_cells(p, value):
    """Whether any value is a tuple of field elements."""
    return isinstance(value, tuple) and all([is_between(part, 0, p - 1) for part in value])


def is_prime(value):
    """Whether any value is a prime from 2 to 10007."""
    if not is_between(value, LEAST_PRIME, GREATEST_PRIME):
        return False
    divisor = 2
    while divisor * divisor <= value:
        if value % divisor == 0:
            return False
        divisor += 1
    return True


def inverse(p, a):
    """Return the field element whose product with a, which is not 0, is 1."""
    # Modulo p, high is always a times high_share, and low is a times low_share.
    high, high_share = p, 0
    low, low_share = a, 1
    while low > 1:
        quotient = high // low
        high, low = low, high - quotient * low
        high_share, low_share = low_share, high_share - quotient * low_share
    return low_share % p


def rank(p, rows):
    """Return the dimension of the span of rows."""
    return len(echelon(p, rows))


def weights(p, rows, row):
    """Return the weights with which the sum of rows is row, None if there are none.

    The weight of a row that is a combination of the rows before it is 0.
    """
    # A column of the equations leads exactly if it is no combination of the columns
    # before it, so the weights that must be 0 are those whose column does not lead.
    leading = echelon(p, equations(rows, row))
    if len(rows) in leading:
        return None
    found = [0] * len(rows)
    for column in sorted(leading, reverse=True):
        equation = leading[column]
        later = sum([equation[k] * found[k] for k in range(column + 1, len(rows))])
        found[column] = (equation[-1] - later) % p
    return tuple(found)


def equations(rows, row):
    """Return one equation for each place of row: the coefficients of the weights, then the right side."""
    return [[known[place] for known in rows] + [row[place]] for place in range(len(row))]


def echelon(p, rows):
    """Return a basis of the span of rows: for each leading column, a row that begins there, with 1."""
    leading = {}
    for row in rows:
        rest = row
        for column in range(len(row)):
            if rest[column] == 0:
                continue
            if column not in leading:
                leading[column] = times(p, inverse(p, rest[column]), rest)
                break
            rest = less(p, rest, rest[column], leading[column])
    return leading


def times(p, factor, row):
    """Return factor times row."""
    return [factor * a % p for a in row]


def less(p, row, factor, other):
    """Return row less factor times other."""
    return [(a - factor * b) % p for a, b in zip(row, other)]


def dot(p, row, other):
    """Return the sum of the products of the numbers of two rows."""
    return sum([a * b for a, b in zip(row, other)]) % p
