"""Single steps, forward over the values of registers and backward over weights of registers.

A row has one number before those of the registers, and number x + 1 belongs to register x. In a row of
values the first number is 1, in a row of differences between values it is 0: so every step, also one that
sets a constant, is linear in rows. In a row of weights the first number is the constant.
"""


def unit(many, place):
    """Return a row of this many numbers, all 0 but a 1 at this place."""
    row = [0] * many
    row[place] = 1
    return row


def overwritten(instruction):
    """Return the register that an instruction other than a loop overwrites, None if there is none."""
    word = instruction[0]
    if word in ("set", "copy", "read") or (word == "scale" and instruction[2] == 0):
        return instruction[1]
    return None


def cleared(row, x):
    """Return the row with 0 at register x."""
    return row[:x + 1] + [0] + row[x + 2:]


def executed(p, instruction, row):
    """Return the row behind an instruction other than a loop or a read; a write changes nothing."""
    after = list(row)
    word = instruction[0]
    x = instruction[1] + 1
    if word == "set":
        after[x] = instruction[2] * row[0] % p
    elif word == "scale":
        after[x] = instruction[2] * row[x] % p
    elif word == "copy":
        after[x] = row[instruction[2] + 1]
    elif word == "add":
        after[x] = (row[x] + instruction[3] * row[instruction[2] + 1]) % p
    elif word == "swap":
        y = instruction[2] + 1
        after[x], after[y] = row[y], row[x]
    return after


def pulled(p, instruction, row):
    """Return the weights that give, before an instruction other than a loop, what row gives behind it.

    The weight of what a read enters is not among them: it is the one that row has at the register.
    """
    before = list(row)
    word = instruction[0]
    x = instruction[1] + 1
    if word == "set":
        before[0] = (row[0] + instruction[2] * row[x]) % p
        before[x] = 0
    elif word == "scale":
        before[x] = instruction[2] * row[x] % p
    elif word == "copy":
        y = instruction[2] + 1
        before[y] = (row[y] + row[x]) % p
        before[x] = 0
    elif word == "add":
        y = instruction[2] + 1
        before[y] = (row[y] + instruction[3] * row[x]) % p
    elif word == "swap":
        y = instruction[2] + 1
        before[x], before[y] = row[y], row[x]
    elif word == "read":
        before[x] = 0
    return before
