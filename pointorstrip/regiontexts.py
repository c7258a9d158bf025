"""Regions as texts: a line for each row."""

from pointorstrip.errors import PlaneError
from pointorstrip.figures import check_figures
from pointorstrip.regions import Region

MOST_FIGURES = 300

RELATIONS = ("<=", ">=", "=")


class BadText(PlaneError):
    """Where a text's first word is that cannot stand there, or its place if one lacks."""

    def __init__(self, line, column):
        super().__init__("this text cannot be read")
        self.line = line
        self.column = column


class Reader:
    """The words of a text, one after the other: triples (word, line, column), and the end."""

    def __init__(self, words, line, column):
        self.words = words
        self.line = line
        self.column = column
        self.place = 0

    def word(self):
        """The word that is next, None behind the last one."""
        return self.words[self.place][0] if self.place < len(self.words) else None

    def step(self):
        """Goes on by one word."""
        self.place = self.place + 1

    def takes(self, word):
        """Whether the next word is this one; then it is taken."""
        if self.word() != word:
            return False
        self.step()
        return True

    def fail(self):
        """BadText for the next word, or for the end if there is none."""
        self.fail_at(self.place)

    def fail_at(self, place):
        """BadText for the word with this number, or for the end if there is none."""
        if place < len(self.words):
            _, line, column = self.words[place]
            raise BadText(line, column)
        raise BadText(self.line, self.column)

    def finish(self):
        """BadText if there is a word left."""
        if self.word() is not None:
            self.fail()


def line_words(line, number):
    """The words of a line with this number, blanks ahead, between and behind."""
    words = []
    column = 1
    for word in line.split(" "):
        if word:
            words.append((word, number, column))
        column = column + len(word) + 1
    return words


def line_reader(words):
    """The Reader of the words of a line, the end being the place behind the last one."""
    word, line, column = words[-1]
    return Reader(words, line, column + len(word))


def is_figures(word):
    """Whether the word is figures, not too many, without needless zeros."""
    if word is None or not word.isascii() or not word.isdigit() or len(word) > MOST_FIGURES:
        return False
    return word == "0" or word[0] != "0"


def read_term(reader, sums, sign):
    """Reads a term, and adds it with its sign to the sums of x, of y, and of the rest."""
    number = sign
    at = 2
    if is_figures(reader.word()):
        number = sign * int(reader.word())
        reader.step()
    elif reader.word() not in ("x", "y"):
        reader.fail()
    if reader.takes("x"):
        at = 0
    elif reader.takes("y"):
        at = 1
    sums[at] = sums[at] + number


def read_side(reader):
    """Reads a side; the list of how many x, how many y, and the rest."""
    sums = [0, 0, 0]
    read_term(reader, sums, -1 if reader.takes("-") else 1)
    while True:
        if reader.takes("+"):
            read_term(reader, sums, 1)
        elif reader.takes("-"):
            read_term(reader, sums, -1)
        else:
            return sums


def read_relation(reader, relations):
    """Reads a side, one of the relations, a side.

    A tuple of the relation, and a, b, c with all x and y on its left, the rest on its right.
    """
    left = read_side(reader)
    relation = reader.word()
    if relation not in relations:
        reader.fail()
    reader.step()
    right = read_side(reader)
    return (relation, left[0] - right[0], left[1] - right[1], right[2] - left[2])


def read_row(reader):
    """Reads a row, up to the end; the list of the line rows that it tells."""
    relation, a, b, c = read_relation(reader, RELATIONS)
    reader.finish()
    rows = []
    if relation != ">=":
        rows.append((a, b, c))
    if relation != "<=":
        rows.append((-a, -b, -c))
    return rows


def read_region(text):
    """The Region of a text's rows."""
    if not isinstance(text, str):
        raise BadText(0, 0)
    rows = []
    for number, line in enumerate(text.split("\n"), start=1):
        words = line_words(line, number)
        if words:
            rows = rows + read_row(line_reader(words))
    return Region(rows)


def write_region(region):
    """The text of a region: read, it is the region again."""
    check_figures([number for row in region.rows for number in row], MOST_FIGURES)
    return "\n".join([row_text(row) for row in region.rows])


def row_text(row):
    """The line of a row."""
    a, b, c = row
    words = side_words(a, b) + ["<="] + number_words(c)
    return " ".join(words)


def side_words(a, b):
    """The words of a x + b y."""
    words = []
    for number, letter in ((a, "x"), (b, "y")):
        if number > 0 and words:
            words.append("+")
        elif number < 0:
            words.append("-")
        if abs(number) > 1:
            words.append(str(abs(number)))
        if number:
            words.append(letter)
    return words if words else ["0"]


def number_words(number):
    """The words of a number."""
    words = [str(abs(number))]
    return ["-"] + words if number < 0 else words
