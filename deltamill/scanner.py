"""A scanner goes through the text of a plan and makes the plan. It may take more than the texts of plans."""

from deltamill.errors import BadText
from deltamill.forms import LETTERS, OPS, WORDS

DIGITS = "0123456789"


class Scanner:
    """It stands at a place of the text; what is behind it is taken piece by piece."""

    def __init__(self, text):
        self.text = text
        self.place = 0

    def takes(self, word):
        """Whether the word stands here; then it is taken."""
        if self.text[self.place:self.place + len(word)] != word:
            return False
        self.place = self.place + len(word)
        return True

    def need(self, word):
        """Take the word, which must stand here."""
        if not self.takes(word):
            raise BadText(self.text)

    def take_run(self, characters):
        """Take all that stands here of these characters."""
        begin = self.place
        while self.place < len(self.text) and self.text[self.place] in characters:
            self.place = self.place + 1
        return self.text[begin:self.place]

    def take_number(self):
        """Take a number without a sign."""
        digits = self.take_run(DIGITS)
        if not digits:
            raise BadText(self.text)
        return int(digits)

    def has_more(self, found, between, end):
        """Whether one more item of a list stands here, behind what stands between items; otherwise take the end."""
        if self.takes(end):
            return False
        if found:
            self.need(between)
        return True

    def take_numbers(self, end):
        """Take a list of numbers and its end."""
        found = []
        while self.has_more(found, ",", end):
            found.append(self.take_number())
        return tuple(found)

    def take_pairs(self):
        """Take the pairs of a join or a without."""
        found = []
        while self.has_more(found, ",", "]"):
            left = self.take_number()
            self.need("=")
            found.append((left, self.take_number()))
        return tuple(found)

    def take_piece(self):
        """Take a part of a term, or its constant; return a pair of the column, or None, and the number."""
        if self.takes("c"):
            return (self.take_number(), 1)
        number = self.take_number()
        if not self.takes("*"):
            return (None, number)
        self.need("c")
        return (self.take_number(), number)

    def take_sign(self):
        """Take a sign; return 1 or -1, or 0 if none stands here."""
        if self.takes("+"):
            return 1
        return -1 if self.takes("-") else 0

    def take_term(self):
        """Take a term."""
        constant = 0
        parts = []
        sign = self.take_sign() or 1
        while sign:
            column, number = self.take_piece()
            if column is None:
                constant = constant + sign * number
            else:
                parts.append((column, sign * number))
            sign = self.take_sign()
        return (constant, tuple(parts))

    def take_terms(self):
        """Take the terms of a map."""
        found = []
        while self.has_more(found, ",", "]"):
            found.append(self.take_term())
        return tuple(found)

    def take_op(self):
        """Take the op of a test."""
        # Of two ops that stand here, the longer one is meant: no term begins with `=`.
        for op in sorted(OPS, key=len, reverse=True):
            if self.takes(op):
                return op
        raise BadText(self.text)

    def take_tests(self):
        """Take the tests of a choose."""
        found = []
        while self.has_more(found, "&", "]"):
            left = self.take_term()
            op = self.take_op()
            found.append((left, op, self.take_term()))
        return tuple(found)

    def take_sort(self):
        """Take the sort of a group."""
        word = self.take_run(LETTERS)
        sort = (word, self.take_number()) if self.takes(":") else (word,)
        self.need("]")
        return sort

    def take_many(self):
        """Take how many copies a top keeps."""
        many = self.take_number()
        self.need("]")
        return many

    def take_subplans(self, many):
        """Take so many sub-plans in their brackets."""
        self.need("(")
        found = [self.take_plan()]
        for _ in range(many - 1):
            self.need(",")
            found.append(self.take_plan())
        self.need(")")
        return tuple(found)

    def take_plan(self):
        """Take a plan."""
        word = self.take_run(LETTERS + "'")
        if word not in WORDS:
            return ("table", word)
        if word == "distinct":
            return (word,) + self.take_subplans(1)
        if word in ("plus", "less"):
            return (word,) + self.take_subplans(2)
        self.need("[")
        if word == "choose":
            tests = self.take_tests()
            return (word,) + self.take_subplans(1) + (tests,)
        if word == "map":
            terms = self.take_terms()
            return (word,) + self.take_subplans(1) + (terms,)
        if word in ("join", "without"):
            pairs = self.take_pairs()
            return (word,) + self.take_subplans(2) + (pairs,)
        if word == "loop":
            name = self.take_run(LETTERS + "'")
            self.need("]")
            return (word, name) + self.take_subplans(2)
        keys = self.take_numbers(";")
        last = self.take_sort() if word == "group" else self.take_many()
        return (word,) + self.take_subplans(1) + (keys, last)
