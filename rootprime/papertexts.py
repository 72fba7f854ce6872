"""Stage 13: the text of a thing, and the thing that is read from it."""

from rootprime.errors import NoText
from rootprime.lines import number_end, run_end

# How deep a thing is at most, and how many letters a word has.
DEEPEST = 80
MOST_LETTERS = 8

LETTERS = "abcdefghijklmnopqrstuvwxyz"


def show(thing):
    """The text of a thing."""
    if thing is None:
        return "-"
    if isinstance(thing, (tuple, list)):
        return "(" + " ".join([show(within) for within in thing]) + ")"
    return str(thing)


def read(text):
    """The thing, of tuples, whose text it is."""
    # What was read in each bracket that is still open, the outermost first; ahead of them the thing itself.
    opened = [[]]
    ahead = ""
    at = 0
    while at < len(text):
        piece = piece_at(text, at)
        if not may_stand(ahead, piece, len(opened) - 1):
            raise NoText(0, at)
        put_behind(opened, piece)
        ahead = piece
        at += len(piece)
    if len(opened) > 1 or ahead == "":
        raise NoText(0, len(text))
    return opened[0][0]


def piece_at(text, at):
    """The number, word, -, bracket or blank that begins at the place, as long as it may be; "" where none does."""
    end = number_end(text, at)
    if end == at:
        end = run_end(text, at, LETTERS, MOST_LETTERS)
    if end == at:
        end = run_end(text, at, "-() ", 1)
    return text[at:end]


def may_stand(ahead, piece, depth):
    """Whether a text may go on with the piece behind the one ahead ("" at its beginning), so many brackets deep."""
    if piece == "":
        return False
    if piece == ")":
        return depth > 0 and ahead != " "
    if piece == " ":
        return depth > 0 and ahead not in ("(", " ")
    return ahead in ("", "(", " ") and (piece != "(" or depth < DEEPEST)


def put_behind(opened, piece):
    """Puts what the piece stands for behind what was read in the innermost bracket, or opens or ends one."""
    if piece == "(":
        opened.append([])
    elif piece == ")":
        things = opened.pop()
        opened[-1].append(tuple(things))
    elif piece != " ":
        opened[-1].append(value_of(piece))


def value_of(piece):
    """What a number, a word or - stands for."""
    if piece == "-":
        return None
    return piece if piece[0] in LETTERS else int(piece)
