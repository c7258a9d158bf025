"""Programs over words as texts: a line for the bits, then one for each step."""

from pointorstrip.regiontexts import BadText, is_figures, line_reader, line_words
from pointorstrip.words import (
    LEAST_BITS, MOST_BITS, MOST_STEPS, PRODUCTS, SHIFTS, SUMS, Program,
)


def read_program(text):
    """The Program of a text."""
    if not isinstance(text, str):
        raise BadText(0, 0)
    lines = text.split("\n")
    bits = None
    steps = []
    for number, line in enumerate(lines, start=1):
        words = line_words(line, number)
        if words:
            reader = line_reader(words)
            if bits is None:
                bits = read_bits(reader)
            else:
                steps.append(read_step(reader, bits, len(steps)))
            reader.finish()
    if bits is None:
        raise BadText(len(lines), 1)
    return Program(bits, steps)


def read_bits(reader):
    """Reads the first line."""
    if not reader.takes("bits"):
        reader.fail()
    return read_between(reader, LEAST_BITS, MOST_BITS)


def read_step(reader, bits, number):
    """Reads the step with this number, from 0."""
    if number == MOST_STEPS or not reader.takes(register_word(number + 1)):
        reader.fail()
    word = reader.word()
    if word not in SHIFTS + PRODUCTS + SUMS:
        reader.fail()
    reader.step()
    source = read_register(reader, number)
    if word in SUMS:
        return (word, source, read_register(reader, number))
    most = bits - 1 if word in SHIFTS else (1 << bits) - 1
    return (word, source, read_between(reader, 0, most))


def read_register(reader, last):
    """Reads a register from 0 to the last one; its number."""
    for number in range(last + 1):
        if reader.takes(register_word(number)):
            return number
    reader.fail()


def read_between(reader, least, most):
    """Reads a number from the least to the most."""
    word = reader.word()
    if not is_figures(word) or int(word) < least or int(word) > most:
        reader.fail()
    reader.step()
    return int(word)


def register_word(number):
    """The word of a register."""
    return "r" + str(number)


def write_program(program):
    """The text of a program: read, it is the program again."""
    lines = ["bits " + str(program.bits)]
    for number, (word, source, last) in enumerate(program.steps, start=1):
        behind = register_word(last) if word in SUMS else str(last)
        lines.append(" ".join([register_word(number), word, register_word(source), behind]))
    return "\n".join(lines)
