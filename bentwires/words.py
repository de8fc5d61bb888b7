"""Drawings as rows of words: read from a text, shown as one, and their wires counted."""

from bentwires.errors import BadWires, NoDrawing

# How many wires each box has to the left and to the right.
SIDES = {
    "id": (1, 1),
    "swap": (2, 2),
    "copy": (1, 2),
    "end": (1, 0),
    "add": (2, 1),
    "none": (0, 1),
    "times": (1, 1),
    "cup": (0, 2),
    "empty": (0, 0),
    "late": (1, 1),
}

# How many parts must follow a word: drawings, or the number of `times`.
PARTS = {"times": 1, "back": 1, "beside": 2, "then": 2}

FIGURES = "0123456789"


def read(p, text):
    """The drawing that a text tells."""
    words = tuple([word_of(p, piece) for piece in text.split(" ")])
    if not numbers_fit(words) or not parts_fit(words):
        raise NoDrawing("the words do not make up one drawing")
    unmet = measured(words)[2]
    if unmet is not None:
        raise BadWires(unmet)
    return words


def shown(words):
    """The text that tells a drawing."""
    return " ".join([str(word) for word in words])


def wires(words):
    """How many wires a drawing has to the left and to the right."""
    return measured(words)[:2]


def word_of(p, piece):
    """The word or the number that a piece of a text tells."""
    if piece in SIDES or piece in PARTS:
        return piece
    if is_number(p, piece):
        return int(piece)
    raise NoDrawing(f"{piece!r} is no word of a drawing")


def is_number(p, piece):
    """Whether a piece of a text tells a number of p, in figures with no nought ahead."""
    if piece == "" or not all([sign in FIGURES for sign in piece]):
        return False
    if piece[0] == "0":
        return piece == "0"
    # More figures than p has make a greater number; so no long row of figures is ever worked out.
    return len(piece) <= len(str(p)) and int(piece) < p


def numbers_fit(words):
    """Whether a number stands behind each `times`, and nowhere else."""
    return all([isinstance(word, int) == (ahead == "times") for ahead, word in zip(("",) + words, words + ("",))])


def parts_fit(words):
    """Whether the words end just where the one drawing that begins with them does."""
    due = 1
    for word in words:
        if due == 0:
            return False
        due += PARTS.get(word, 0) - 1
    return due == 0


def folded(words, made):
    """What a drawing comes to, where made(place, word, parts) is what the one at a place comes to by its parts."""
    return all_folded(words, made)[0]


def all_folded(words, made):
    """What each drawing within a drawing comes to, by the place of its first word.

    The words are taken from the last to the first: so the parts are there ahead of what they make up, and no
    drawing is too deep.
    """
    told = {}
    values = []
    for place in range(len(words) - 1, -1, -1):
        word = words[place]
        if isinstance(word, int):
            values.append(word)
        else:
            parts = [values.pop() for part in range(PARTS.get(word, 0))]
            told[place] = made(place, word, parts)
            values.append(told[place])
    return told


def ends(words):
    """The place behind the last word of each drawing within a drawing, by the place of its first word."""
    return all_folded(words, end_of)


def end_of(place, word, parts):
    """The place behind the last word of the drawing at a place, by those of its parts."""
    if word == "times":
        return place + 2
    return parts[-1] if parts else place + 1


def measured(words):
    """A tuple of the wires to the left, those to the right, and the place that BadWires keeps, or None."""
    return folded(words, measure)


def measure(place, word, parts):
    """What `measured` tells of the drawing at a place, by what it tells of the parts."""
    if word in SIDES:
        return SIDES[word] + (None,)
    unmet = first_unmet(parts)
    # The first part ends ahead of the whole; the second ends with it, but lies within: so both come first.
    if word == "then" and unmet is None and parts[0][1] != parts[1][0]:
        unmet = place
    return joined_sides(word, parts) + (unmet,)


def joined_sides(word, parts):
    """How many wires to the left and to the right a joint of parts has, which tell their own ones first."""
    if word == "back":
        return (parts[0][1], parts[0][0])
    if word == "beside":
        return (parts[0][0] + parts[1][0], parts[0][1] + parts[1][1])
    return (parts[0][0], parts[1][1])


def first_unmet(parts):
    """The place of the first `then` in the parts whose drawings do not meet, or None."""
    unmet = [part[2] for part in parts if part[2] is not None]
    return unmet[0] if unmet else None
