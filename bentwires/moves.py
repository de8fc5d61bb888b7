"""Moves: rules that change a drawing, and keep what it lets by."""

from bentwires.errors import NoMove
from bentwires.rows import turned
from bentwires.words import ends, wires

# What each rule takes and what it makes of it, the first pair that fits. A, B, C, D stand for any drawings, k and l
# for numbers, k*l for their product, and 1/k for the number whose product with k is 1.
RULES = {
    "twice": (("back back A", "A"),),
    "turnthen": (("back then A B", "then back B back A"),),
    "turnbeside": (("back beside A B", "beside back A back B"),),
    "thread": (("then then A B C", "then A then B C"),),
    "stack": (("beside beside A B C", "beside A beside B C"),),
    "cross": (("then beside A B beside C D", "beside then A C then B D"),),
    "lone": (("then id A", "A"), ("then A id", "A")),
    "bare": (("beside empty A", "A"), ("beside A empty", "A")),
    "undo": (("then swap swap", "beside id id"),),
    "copyend": (("then copy beside end id", "id"),),
    "copyturn": (("then copy swap", "copy"),),
    "copycopy": (("then copy beside copy id", "then copy beside id copy"),),
    "addnone": (("then beside none id add", "id"),),
    "addturn": (("then swap add", "add"),),
    "addadd": (("then beside add id add", "then beside id add add"),),
    "scale": (("then times k times l", "times k*l"),),
    "one": (("times 1", "id"),),
    "nought": (("times 0", "then end none"),),
    "sumcopy": (("then add copy", "then beside copy copy then beside id beside swap id beside add add"),),
    "sumend": (("then add end", "beside end end"),),
    "nonecopy": (("then none copy", "beside none none"),),
    "noneend": (("then none end", "empty"),),
    "scalecopy": (("then times k copy", "then copy beside times k times k"),),
    "scaleadd": (("then add times k", "then beside times k times k add"),),
    "bend": (("then beside cup id beside id back cup", "id"),),
    "turnscale": (("back times k", "times 1/k"),),
    "meet": (("then copy back copy", "id"),),
    "turnid": (("back id", "id"), ("back swap", "swap"), ("back empty", "empty")),
}

ANY_DRAWING = ("A", "B", "C", "D")
ANY_NUMBER = ("k", "l")


def moved(p, words, at, rule):
    """A drawing, changed by a rule at the drawing that begins at one of its words."""
    behind = ends(words)
    fit = fitting(words, behind, at, rule)
    if fit is None:
        raise NoMove(f"the rule {rule!r} fits no drawing that begins at word {at}")
    return words[:at] + filled(p, fit[0], fit[1]) + words[behind[at]:]


def moves(p, words):
    """All moves that fit a drawing, as tuples of a word and a rule."""
    behind = ends(words)
    told = []
    for at in behind:
        told.extend([(at, rule) for rule in RULES if fitting(words, behind, at, rule) is not None])
    return sorted(told)


def fitting(words, behind, at, rule):
    """What a rule finds at a word, and the text of what it makes of it; None where it does not fit."""
    if at not in behind:
        return None
    for pair in RULES.get(rule, ()):
        found = matched(words, behind, at, pair[0])
        if found is not None and allowed(rule, found):
            return (found, pair[1])
    return None


def matched(words, behind, at, text):
    """The words that stand at a word for each letter of a rule's text, by the letter; None where they differ."""
    found = {}
    place = at
    for piece in text.split(" "):
        if piece in ANY_DRAWING:
            found[piece] = words[place:behind[place]]
            place = behind[place]
        elif piece in ANY_NUMBER:
            found[piece] = words[place:place + 1]
            place += 1
        elif str(words[place]) == piece:
            place += 1
        else:
            return None
    return found


def allowed(rule, found):
    """Whether what a rule finds meets the conditions that its text does not show."""
    if rule == "cross":
        return wires(found["A"])[1] == wires(found["C"])[0]
    if rule == "turnscale":
        return found["k"] != (0,)
    return True


def filled(p, found, text):
    """The words that a rule's text tells, with what was found in the place of its letters."""
    words = ()
    for piece in text.split(" "):
        words += filled_piece(p, found, piece)
    return words


def filled_piece(p, found, piece):
    """The words that one piece of a rule's text tells."""
    if piece == "k*l":
        return (found["k"][0] * found["l"][0] % p,)
    if piece == "1/k":
        return (turned(p, found["k"][0]),)
    return found.get(piece, (piece,))
