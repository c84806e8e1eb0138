"""Pages of cells, answers as written, windows on pages, and places of cursors."""

from leafround.answers import is_fault
from leafround.texts import shown_name

WIDTH = 60
# However deep a cell is, so much of the width is left to it.
LEFT_LEAST = 10


def page_of(cells, *, width=WIDTH):
    """The lines of a page, and the owner of each: (cell, kind, number among the cell's lines of this kind)."""
    lines, owners = [], []
    for cell, depth, text, answer in cells:
        many = {"text": 0, "mark": 0, "answer": 0}
        for kind, line in cell_lines(cell, text, answer, spaces(depth, width)):
            lines.append(line.rstrip(" "))
            owners.append((cell, kind, many[kind]))
            many[kind] += 1
    return lines, owners


def spaces(depth, width):
    """By how many signs a cell stands in, and the room that its text has on a line."""
    inset = 2 * min(depth, (width - LEFT_LEAST) // 2)
    return inset, width - inset - 2


def cell_lines(cell, text, answer, space):
    """The lines of a cell, each as (kind, line)."""
    inset, room = space
    lines = [("text", line) for line in hung(" " * inset + "- ", text, room)]
    if answer is None:
        return lines
    if is_marked(answer, cell):
        piece, sign = spot_of(answer[3], text, room)
        lines.insert(piece + 1, ("mark", " " * (inset + 2 + sign) + "^"))
    ahead = " " * (inset + 2) + ("! " if is_fault(answer) else "= ")
    told = hung(ahead, written(answer, cell), room - 2)
    return [*lines, *[("answer", line) for line in told]]


def hung(ahead, text, room):
    """A text cut into pieces of so many signs, each a line: the first behind what stands ahead, others as far in."""
    starts = range(0, max(len(text), 1), room)
    return [(" " * len(ahead) if at else ahead) + text[at:at + room] for at in starts]


def spot_of(sign, text, room):
    """The piece by which the mark of a sign stands, and how many signs of it stand ahead of the mark."""
    last = max(len(text) - 1, 0) // room
    piece = min(sign // room, last)
    return piece, sign - piece * room


def is_marked(answer, cell):
    """Whether an answer is a fault that arose at a sign of this cell's text."""
    return is_fault(answer) and len(answer) == 4 and answer[2] == cell


def written(answer, cell):
    """The text of this cell's answer."""
    if is_fault(answer):
        return written_fault(answer, cell)
    kind, worth = answer
    if kind == "list":
        return "[" + ", ".join([written(item, cell) for item in worth]) + "]"
    if kind == "truth":
        return "true" if worth else "false"
    return "'" + worth + "'" if kind == "words" else str(worth)


def written_fault(fault, cell):
    word, source = fault[1:3]
    if word == "from":
        return "from " + shown_name(source)
    if len(fault) == 4 and source != cell:
        return f"{word} at {fault[3]} of {shown_name(source)}"
    return word


def window(lines, *, top=0, rows=20):
    """So many lines of a page, from the top one on."""
    return lines[top:top + rows]


def place_of(cursor, cells, row, *, width=WIDTH):
    """Where a cursor (cell, sign) stands: (line, at), or None where its cell isn't shown."""
    cell, sign = cursor
    for shown, depth, text, _ in cells:
        if shown == cell:
            inset, room = spaces(depth, width)
            piece, at = spot_of(shown_till(row, sign), text, room)
            owners = page_of(cells, width=width)[1]
            return owners.index((cell, "text", piece)), inset + 2 + at
    return None


def shown_till(row, sign):
    """How many signs of a cell's row are shown up to this one, itself too; None is the row's beginning."""
    if sign is None:
        return 0
    end = [name for name, _ in row].index(sign)
    return len([shown for _, shown in row[:end + 1] if shown is not None])
