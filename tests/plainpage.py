"""Points 37 to 39 written out anew: pages, answers as written, places of cursors.

Nothing here uses the program.
"""


def plain_written(answer, cell):
    if answer[0] == "fault":
        word = answer[1]
        if word == "from":
            return "from %s:%d" % answer[2]
        if word == "ring" or answer[2] == cell:
            return word
        return "%s at %d of %s:%d" % (word, answer[3], *answer[2])
    kind, worth = answer
    if kind == "number":
        return ("-" if worth < 0 else "") + str(abs(worth))
    if kind == "truth":
        return {True: "true", False: "false"}[worth]
    if kind == "words":
        return "'%s'" % worth
    told = ""
    for item in worth:
        told += (", " if told else "") + plain_written(item, cell)
    return "[%s]" % told


def cut(text, room):
    pieces = [""]
    for sign in text:
        if len(pieces[-1]) == room:
            pieces.append("")
        pieces[-1] += sign
    return pieces


def room_of(depth, width):
    inset = 0
    while depth > 0 and inset + 2 <= width - 10:
        depth, inset = depth - 1, inset + 2
    return inset, width - inset - 2


def spot(pieces, sign):
    """The piece of a text's sign, and the sign's number in it; behind the last one that of the last piece."""
    for number, piece in enumerate(pieces):
        if sign < len(piece):
            return number, sign
        if number == len(pieces) - 1:
            return number, len(piece) + sign - len(piece)
        sign -= len(piece)
    raise AssertionError


def plain_page(cells, width=60):
    lines, owners = [], []
    for cell, depth, text, answer in cells:
        inset, room = room_of(depth, width)
        pieces = cut(text, room)
        rows = []
        for number, piece in enumerate(pieces):
            rows.append((" " * inset + ("- " if number == 0 else "  ") + piece, "text", number))
        if answer is not None:
            bad = answer[0] == "fault"
            if bad and answer[1] not in ("from", "ring") and answer[2] == cell:
                number, sign = spot(pieces, answer[3])
                rows.insert(number + 1, (" " * (inset + 2) + " " * sign + "^", "mark", 0))
            for number, piece in enumerate(cut(plain_written(answer, cell), room - 2)):
                rows.append((" " * (inset + 2) + ("  " if number else "! " if bad else "= ") + piece, "answer", number))
        for line, kind, number in rows:
            while line.endswith(" "):
                line = line[:-1]
            lines.append(line)
            owners.append((cell, kind, number))
    return lines, owners


def plain_place(cursor, cells, row, width=60):
    for cell, depth, text, _ in cells:
        if cell == cursor[0]:
            shown = 0
            if cursor[1] is not None:
                for name, sign in row:
                    shown += sign is not None
                    if name == cursor[1]:
                        break
            inset, room = room_of(depth, width)
            number, sign = spot(cut(text, room), shown)
            return plain_page(cells, width)[1].index((cell, "text", number)), inset + 2 + sign
    return None
