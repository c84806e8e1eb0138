"""Records of rows, and logs of records one behind the other."""

from leafround.texts import number_in

FIGURES_MOST = 60


def check_of(text):
    """The check of a text."""
    check = 7
    for sign in text:
        check = (33 * check + ord(sign)) % 1000003
    return check


def record(number, rows):
    """Rows written as the record of this number."""
    body = "\n".join(rows)
    check = check_of(f"{number} {len(body)}:{body}")
    return f"{number} {len(body)}:{check}={body}\n"


def parsed(log):
    """The number of a log's first record, the rows of all whole ones, and how many signs these take."""
    first, records, at = None, [], 0
    found = record_at(log, 0)
    while found is not None:
        number, rows, behind = found
        if first is None:
            first = number
        if number != first + len(records):
            break
        records.append(rows)
        at = behind
        found = record_at(log, at)
    return first, records, at


def record_at(log, at):
    """The number and the rows of the whole record that begins at this sign, and where it ends, or None."""
    number, at_length = number_until(log, at, " ")
    length, at_check = number_until(log, at_length, ":")
    check, at_body = number_until(log, at_check, "=")
    if number is None or length is None or check is None:
        return None
    end = at_body + length
    if log[end:end + 1] != "\n":
        return None
    body = log[at_body:end]
    rows = body.split("\n")
    if not all([is_row(row) for row in rows]) or check != check_of(f"{number} {length}:{body}"):
        return None
    return number, rows, end + 1


def number_until(log, at, closing):
    """The number that stands from this sign up to the closing one, or None, and where that one ends."""
    end = log.find(closing, at, at + FIGURES_MOST + 1)
    return (None, at) if end < 0 else (number_in(log[at:end]), end + 1)


def is_row(row):
    return row != "" and all([" " <= sign <= "~" for sign in row])
