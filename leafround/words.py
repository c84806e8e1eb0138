"""The words of a cell's text."""

LETTERS = "abcdefghijklmnopqrstuvwxyz"
FIGURES = "0123456789"
# Longer ones first: a word is as long as can be.
SIGNS = ("//", "==", "!=", "<=", "<", "+", "-", "*", "=", "(", ")", "[", "]", ",")
FIXED = (
    "if", "then", "else", "let", "in", "and", "or", "not", "rest", "for", "true", "false",
    "len", "sum", "text",
)


def words_of(text):
    """The words (kind, word, at) of a text, up to the first that is none, and an end behind."""
    words = []
    at = 0
    while at < len(text):
        if text[at] == " ":
            at += 1
            continue
        kind, word = word_at(text, at)
        words.append((kind, word, at))
        if kind == "none":
            break
        at += len(word)
    words.append(("end", "", len(text)))
    return words


def word_at(text, at):
    """The kind and the word that begins at this sign, which is no blank."""
    if text[at] in LETTERS or text[at] in FIGURES:
        return plain_word(text, at)
    if text[at] == "'":
        end = text.find("'", at + 1)
        return ("none", "'") if end < 0 else ("quote", text[at:end + 1])
    for sign in SIGNS:
        if text[at:at + len(sign)] == sign:
            return ("fixed", sign)
    return ("none", text[at])


def plain_word(text, at):
    """A word of letters and figures."""
    end = at
    while end < len(text) and (text[end] in LETTERS or text[end] in FIGURES):
        end += 1
    word = text[at:end]
    if word in FIXED:
        return ("fixed", word)
    if word.isalpha() and len(word) <= 8:
        return ("name", word)
    if word.isdigit() and len(word) <= 60 and (word[0] != "0" or word == "0"):
        return ("number", word)
    return ("none", word)
