"""Ways and templates as texts."""

from onewithin.errors import NoText
from onewithin.templates import WHOM, check_template, is_template
from onewithin.ways import KINDS, check_way, is_way

# For each first word of a row what its other words are.
WAY_ROWS = {
    "box": ("kind", "whole", "whole"),
    "hand": ("whole", "whole"),
    "write": ("whole", "whole"),
    "look": ("whole", "numbers", "whole"),
}
TEMPLATE_ROWS = {
    "own": ("kind", "whole", "whole"),
    "hand": ("whole", "whole"),
    "write": ("whole", "whole"),
    "look": ("whom", "whole", "numbers", "whole"),
}


def show_way(way):
    """The text of a way."""
    check_way(way)
    boxes, hands = way
    return text_of("box", boxes, hands)


def show_template(template):
    """The text of a template."""
    check_template(template)
    kinds, program = template
    return text_of("own", kinds, (program,))


def read_way(text):
    """The way that is written in a text."""
    rows = rows_in(text, dict(WAY_ROWS))
    way = gathered(rows)
    if not is_way(way):
        raise NoText(len(rows))
    return way


def read_template(text):
    """The template that is written in a text."""
    rows = rows_in(text, dict(TEMPLATE_ROWS))
    kinds, programs = gathered(rows)
    template = (kinds,) + programs
    if not is_template(template):
        raise NoText(len(rows))
    return template


def text_of(word, boxes, programs):
    """The text of boxes, whose rows begin with this word, and of programs."""
    rows = [(word,) + box for box in boxes]
    for door, within, program_rows in programs:
        rows.append(("hand", door, within))
        rows.extend(program_rows)
    return "\n".join([" ".join([word_of(part) for part in row]) for row in rows])


def word_of(part):
    """A word, a whole number or a tuple of numbers as it stands in a row."""
    if isinstance(part, tuple):
        return "".join([str(number) for number in part]) if part else "-"
    return str(part)


def rows_in(text, forms):
    """A list of what the rows of a text tell, each a tuple of its first word and what the others tell."""
    if not isinstance(text, str):
        raise NoText(None)
    found = []
    for at, row in enumerate(text.split("\n")):
        words = row.split(" ")
        if not is_row(words, forms):
            raise NoText(at)
        told = [told_by(kind, word) for kind, word in zip(forms[words[0]], words[1:])]
        found.append((words[0],) + tuple(told))
    return found


def is_row(words, forms):
    """True where the words are those of a row of one of these forms."""
    if words[0] not in forms or len(words) != len(forms[words[0]]) + 1:
        return False
    return all([is_written(kind, word) for kind, word in zip(forms[words[0]], words[1:])])


def is_written(kind, word):
    """True where the word is written as one of its kind."""
    if kind == "kind":
        return word in KINDS
    if kind == "whom":
        return word in WHOM
    if kind == "numbers":
        return word == "-" or are_figures(word)
    return are_figures(word) and (word == "0" or word[0] != "0")


def are_figures(word):
    return word != "" and all([sign in "0123456789" for sign in word])


def told_by(kind, word):
    """What a word that is written as one of its kind tells."""
    if kind == "numbers":
        return tuple([int(sign) for sign in word if sign != "-"])
    if kind == "whole":
        # Of a number that is too great anywhere a few figures tell as much, and can be read however long it is.
        return int(word[:4])
    return word


def gathered(rows):
    """(boxes, programs) of the rows; what stands in a wrong place comes to be no box, or no row of a program."""
    boxes = []
    programs = []
    for row in rows:
        if row[0] == "hand":
            programs.append((row[1], row[2], []))
        elif programs:
            programs[-1][2].append(row)
        else:
            boxes.append(row[1:])
    return tuple(boxes), tuple([(door, within, tuple(told)) for door, within, told in programs])
