"""Conditions as texts."""

from pointorstrip.figures import check_figures
from pointorstrip.formulas import leaves_of
from pointorstrip.regiontexts import (
    MOST_FIGURES, BadText, Reader, is_figures, number_words, read_relation, row_text, side_words,
)

MOST_AROUND = 20

# A sign that begins like another one comes after it.
SIGNS = ("<=", ">=", "!=", "<", ">", "=", "(", ")", "+", "-")
WORD_ENDS = " ()+-<>=!"
RELATIONS = ("<=", ">=", "!=", "<", ">", "=")


def word_at(line, at):
    """The word that begins at a place of a line that is no blank."""
    for sign in SIGNS:
        if line[at:at + len(sign)] == sign:
            return sign
    end = at + 1
    while end < len(line) and line[end] not in WORD_ENDS:
        end = end + 1
    return line[at:end]


def words_in(line, number):
    """The words of a line with this number, signs being words without blanks around them."""
    words = []
    at = 0
    while at < len(line):
        if line[at] == " ":
            at = at + 1
        else:
            word = word_at(line, at)
            words.append((word, number, at + 1))
            at = at + len(word)
    return words


def read_condition(text):
    """The condition of a text."""
    if not isinstance(text, str):
        raise BadText(0, 0)
    lines = text.split("\n")
    words = []
    for number, line in enumerate(lines, start=1):
        words.extend(words_in(line, number))
    reader = Reader(words, len(lines), len(lines[-1]) + 1)
    told = read_some(reader, 0)
    reader.finish()
    return told


def read_some(reader, around):
    """Reads parts with or between; so many nots and parentheses are around them."""
    parts = [read_all(reader, around)]
    while reader.takes("or"):
        parts.append(read_all(reader, around))
    return joined("or", parts)


def read_all(reader, around):
    """Reads parts with and between; so many nots and parentheses are around them."""
    parts = [read_one(reader, around)]
    while reader.takes("and"):
        parts.append(read_one(reader, around))
    return joined("and", parts)


def joined(word, parts):
    """The condition of parts with a word between; one part alone is itself."""
    return parts[0] if len(parts) == 1 else (word,) + tuple(parts)


def read_one(reader, around):
    """Reads a not and its part, a condition in parentheses, or a comparison."""
    if around > MOST_AROUND:
        reader.fail()
    if reader.takes("not"):
        return ("not", read_one(reader, around + 1))
    if reader.takes("("):
        told = read_some(reader, around + 1)
        if not reader.takes(")"):
            reader.fail()
        return told
    return read_comparison(reader)


def read_comparison(reader):
    """Reads two sides with a relation between, and what they are compared by."""
    relation, a, b, c = read_relation(reader, RELATIONS)
    if relation in ("=", "!="):
        if reader.takes("mod"):
            told = ("rest", a, b, c, read_modulus(reader))
        else:
            told = ("and", ("row", a, b, c), ("row", -a, -b, -c))
        return told if relation == "=" else ("not", told)
    if relation == "<=":
        return ("row", a, b, c)
    if relation == ">=":
        return ("row", -a, -b, -c)
    if relation == "<":
        return ("row", a, b, c - 1)
    return ("row", -a, -b, -c - 1)


def read_modulus(reader):
    """Reads figures from 1 on."""
    word = reader.word()
    if not is_figures(word) or word == "0":
        reader.fail()
    reader.step()
    return int(word)


def write_condition(told):
    """The text of a condition."""
    numbers = [number for leaf in leaves_of(told) for number in leaf[1:]]
    check_figures(numbers, MOST_FIGURES)
    return part_text(told, None)


def part_text(part, around):
    """The text of a part of a condition that is a part of one with this word, or of none."""
    word = part[0]
    if word == "row":
        return row_text(part[1:])
    if word == "rest":
        return rest_text(part)
    if word == "not":
        return "not " + part_text(part[1], word)
    if len(part) == 2:
        return part_text(part[1], around)
    texts = [part_text(inner, word) for inner in part[1:]]
    text = " and ".join(texts) if word == "and" else " or ".join(texts)
    if around in ("not", "and") or (around == "or" and word == "or"):
        return "(" + text + ")"
    return text


def rest_text(part):
    """The text of a rest."""
    _, a, b, c, m = part
    return " ".join(side_words(a, b) + ["="] + number_words(c) + ["mod", str(m)])
