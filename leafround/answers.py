"""What answers are, and what operations make of them."""

from leafround.forms import is_name, is_number

# An answer is beyond its bounds where its number has more figures than sixty, its text more signs,
# its list more answers in it (those within these too) or more lists within one another.
NUMBERS_END = 10 ** 60
WORDS_MOST = 400
ANSWERS_MOST = 200
LISTS_MOST = 4

# The words of faults that tell a cell and an at; from and ring tell a cell alone.
PLACED = ("kind", "nought", "index", "great", "steps", "deep", "nobody", "twice", "source")


def is_answer(thing):
    """Whether a thing is an answer that is no fault."""
    return has_form(thing) and not is_great(thing)


def has_form(thing):
    """Whether a thing is made as answers are, whatever its bounds."""
    if not isinstance(thing, tuple) or len(thing) != 2:
        return False
    kind, worth = thing
    if kind == "number":
        return isinstance(worth, int) and not isinstance(worth, bool)
    if kind == "truth":
        return isinstance(worth, bool)
    if kind == "words":
        return isinstance(worth, str)
    return kind == "list" and isinstance(worth, tuple) and all([has_form(item) for item in worth])


def is_great(answer):
    """Whether an answer is beyond its bounds."""
    kind, worth = answer
    if kind == "number":
        return not -NUMBERS_END < worth < NUMBERS_END
    if kind == "words":
        return len(worth) > WORDS_MOST
    if kind == "list":
        many, lists = measured(worth)
        return many > ANSWERS_MOST or lists > LISTS_MOST
    return False


def measured(items):
    """How many answers a list has in it, and how many lists stand within one another."""
    many, lists = 0, 0
    inner = [items]
    while inner:
        lists += 1
        level = [item for one in inner for item in one]
        many += len(level)
        inner = [worth for kind, worth in level if kind == "list"]
    return many, lists


def is_fault(answer):
    return answer[0] == "fault"


def is_told(thing):
    """Whether a thing is an answer or a fault."""
    return is_answer(thing) or has_fault_form(thing)


def has_fault_form(thing):
    if not isinstance(thing, tuple) or not 3 <= len(thing) <= 4 or thing[0] != "fault" or not is_name(thing[2]):
        return False
    if len(thing) == 3:
        return thing[1] in ("from", "ring")
    return thing[1] in PLACED and is_number(thing[3])


def is_endless(answer):
    """Whether an answer is a fault for which there are no whys."""
    return is_fault(answer) and answer[1] in ("steps", "deep")


def fault_at(told, cell, at):
    """What is told, an answer, a fault or a fault's word, as an answer or a fault of this place."""
    return ("fault", told, cell, at) if isinstance(told, str) else told


def bounded(answer):
    """An answer, or the word of its fault."""
    return "great" if is_great(answer) else answer


def made(word, operands):
    """What an operation makes of answers: an answer, or the word of the fault that is due first."""
    operation = OPERATIONS[word]
    told = operation(operands)
    return told if isinstance(told, str) else bounded(told)


def operation_of(tree):
    """The word of a tree's operation."""
    return tree[2] if tree[0] in ("sign", "own") else tree[0]


def are_numbers(answers):
    return all([answer[0] == "number" for answer in answers])


def plus(operands):
    (kind, worth), (other_kind, other_worth) = operands
    if kind != other_kind or kind == "truth":
        return "kind"
    return (kind, worth + other_worth)


def less(operands):
    if not are_numbers(operands):
        return "kind"
    return ("number", operands[0][1] - operands[1][1])


def times(operands):
    if not are_numbers(operands):
        return "kind"
    return ("number", operands[0][1] * operands[1][1])


def parted(operands):
    if not are_numbers(operands):
        return "kind"
    if operands[1][1] == 0:
        return "nought"
    return ("number", operands[0][1] // operands[1][1])


def rest_of(operands):
    if not are_numbers(operands):
        return "kind"
    if operands[1][1] == 0:
        return "nought"
    return ("number", operands[0][1] % operands[1][1])


def minus(operands):
    if not are_numbers(operands):
        return "kind"
    return ("number", -operands[0][1])


def equal(operands):
    # Each answer begins with its kind, so a number is never like a truth.
    return ("truth", operands[0] == operands[1])


def unequal(operands):
    return ("truth", operands[0] != operands[1])


def have_order(operands):
    return operands[0][0] == operands[1][0] and operands[0][0] in ("number", "words")


def below(operands):
    if not have_order(operands):
        return "kind"
    return ("truth", operands[0][1] < operands[1][1])


def not_above(operands):
    if not have_order(operands):
        return "kind"
    return ("truth", operands[0][1] <= operands[1][1])


def inverse(operands):
    kind, worth = operands[0]
    return ("truth", not worth) if kind == "truth" else "kind"


def length(operands):
    kind, worth = operands[0]
    return ("number", len(worth)) if kind in ("words", "list") else "kind"


def summed(operands):
    kind, worth = operands[0]
    if kind != "list" or not are_numbers(worth):
        return "kind"
    return ("number", sum([item[1] for item in worth]))


def as_words(operands):
    kind, worth = operands[0]
    if kind == "list":
        return "kind"
    if kind == "truth":
        return ("words", "true" if worth else "false")
    return ("words", str(worth))


def picked(operands):
    (kind, worth), (index_kind, index) = operands
    if kind not in ("words", "list") or index_kind != "number":
        return "kind"
    if not 0 <= index < len(worth):
        return "index"
    return ("words", worth[index]) if kind == "words" else worth[index]


def listed(operands):
    return ("list", tuple(operands))


OPERATIONS = {
    "+": plus, "-": less, "*": times, "//": parted, "rest": rest_of,
    "==": equal, "!=": unequal, "<": below, "<=": not_above,
    "len": length, "sum": summed, "text": as_words,
    "minus": minus, "not": inverse, "pick": picked, "list": listed,
}
