"""The text form of programs, as it is written."""

MARGIN = "  "


def show_program(program):
    """Return the text of a program."""
    return "\n".join(program_lines(program, ""))


def program_lines(program, margin):
    """Return the lines of a program, or of the body of a loop, each behind this margin."""
    lines = []
    for instruction in program:
        if instruction[0] == "loop":
            lines.append(margin + "loop " + str(instruction[1]) + " {")
            lines.extend(program_lines(instruction[2], margin + MARGIN))
            lines.append(margin + "}")
        else:
            lines.append(margin + show_step(instruction))
    return lines


def show_step(instruction):
    """Return the line of an instruction other than a loop, without its margin."""
    return " ".join([str(part) for part in instruction])
