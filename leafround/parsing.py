"""The tree of an expression, made of its words."""

from leafround.errors import NoSource
from leafround.trees import ANY, ARGUMENTS_MOST, BETWEEN, CLOSED, ITEMS_MOST, MINUS, NOT, OPEN_MOST, PICK


class Parser:
    """Goes through words (kind, word, at) from the left, and refuses the first that can't stand."""

    def __init__(self, words):
        self._words = words
        self._next = 0
        self._depth = 0

    def whole(self):
        """The tree of all the words."""
        tree = self._expression(ANY)
        kind, _, at = self._words[self._next]
        if kind != "end":
            raise NoSource(at)
        return tree

    def _is_next(self, word):
        kind, found, _ = self._words[self._next]
        return kind == "fixed" and found == word

    def _take(self, word):
        if not self._is_next(word):
            raise NoSource(self._words[self._next][2])
        self._next += 1

    def _take_name(self):
        kind, name, at = self._words[self._next]
        if kind != "name":
            raise NoSource(at)
        self._next += 1
        return name

    def _enter(self, word):
        """Take a word that opens, where it isn't one too many within one another."""
        if self._depth == OPEN_MOST:
            raise NoSource(self._words[self._next][2])
        self._take(word)
        self._depth += 1

    def _leave(self):
        self._depth -= 1

    def _expression(self, need):
        """An expression at least as tight as needed, as long as can be."""
        tree, tight = self._first(need)
        while self._joins(need, tight):
            word = self._words[self._next][1]
            self._next += 1
            tight, _, right = BETWEEN[word]
            other = self._expression(right)
            if word == "and" or word == "or":
                tree = (word, tree[1], tree, other)
            else:
                tree = ("sign", tree[1], word, tree, other)
        return tree

    def _joins(self, need, tight):
        """Whether a word is next that may stand behind so tight an expression."""
        kind, word, _ = self._words[self._next]
        if kind != "fixed" or word not in BETWEEN:
            return False
        whole, left, _ = BETWEEN[word]
        return whole >= need and tight >= left

    def _first(self, need):
        """What stands ahead of any word between two: (tree, how tight it is)."""
        at = self._words[self._next][2]
        if need == ANY and self._is_next("if"):
            return self._choice(at), ANY
        if need == ANY and self._is_next("let"):
            return self._naming(at), ANY
        if need <= NOT and self._is_next("not"):
            return ("not", at, self._operand("not", NOT)), NOT
        if self._is_next("-"):
            return ("minus", at, self._operand("-", MINUS)), MINUS
        tree, tight = self._closed(), CLOSED
        while self._is_next("["):
            tree, tight = ("pick", tree[1], tree, self._between("[", "]")), PICK
        return tree, tight

    def _operand(self, word, need):
        self._enter(word)
        tree = self._expression(need)
        self._leave()
        return tree

    def _between(self, opening, closing):
        """Any expression between two brackets."""
        tree = self._operand(opening, ANY)
        self._take(closing)
        return tree

    def _choice(self, at):
        self._enter("if")
        ask = self._expression(ANY)
        self._take("then")
        yes = self._expression(ANY)
        self._take("else")
        other = self._expression(ANY)
        self._leave()
        return ("if", at, ask, yes, other)

    def _naming(self, at):
        self._enter("let")
        name = self._take_name()
        self._take("=")
        one = self._expression(ANY)
        self._take("in")
        two = self._expression(ANY)
        self._leave()
        return ("let", at, name, one, two)

    def _closed(self):
        """An expression that is closed in itself."""
        kind, word, at = self._words[self._next]
        if kind == "name":
            self._next += 1
            return self._call(at, word) if self._is_next("(") else ("name", at, word)
        if word == "(" and kind == "fixed":
            return self._between("(", ")")
        if word == "[" and kind == "fixed":
            return self._bracketed(at)
        self._next += 1
        if kind == "number":
            return ("number", at, int(word))
        if kind == "quote":
            return ("words", at, word[1:-1])
        if kind == "fixed" and word in ("true", "false"):
            return ("truth", at, word == "true")
        if kind == "fixed" and word in ("len", "sum", "text"):
            return ("own", at, word, self._between("(", ")"))
        raise NoSource(at)

    def _call(self, at, name):
        self._enter("(")
        given = self._items(self._expression(ANY), ARGUMENTS_MOST)
        self._take(")")
        self._leave()
        return ("call", at, name, given)

    def _bracketed(self, at):
        """A list, or what is told for each of one."""
        self._enter("[")
        if self._is_next("]"):
            tree = ("list", at, ())
        else:
            first = self._expression(ANY)
            if self._is_next("for"):
                tree = self._each(at, first)
            else:
                tree = ("list", at, self._items(first, ITEMS_MOST))
        self._take("]")
        self._leave()
        return tree

    def _items(self, first, most):
        items = [first]
        while len(items) < most and self._is_next(","):
            self._next += 1
            items.append(self._expression(ANY))
        return tuple(items)

    def _each(self, at, body):
        self._take("for")
        name = self._take_name()
        self._take("in")
        source = self._expression(ANY)
        test = None
        # This if is no opening one: it has no then, and ends with the bracket.
        if self._is_next("if"):
            self._next += 1
            test = self._expression(ANY)
        return ("each", at, body, name, source, test)
