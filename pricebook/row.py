"""One line's words, looked at one after the other; the first wrong one is raised as a wrong place."""

from pricebook.refusals import WrongPlace
from pricebook.words import is_name, is_number

CANNOT_STAND = 1
TOLD_ALREADY = 2
NOT_TOLD = 3
NOT_IN_RANGE = 4
TOO_MANY = 5


# place is that of the word looked at last.
class Row:
    def __init__(self, line, words):
        self.line = line
        self.words = words
        self.place = 0

    def fail(self, why):
        raise WrongPlace(self.line, self.place, why)

    def fail_at_first(self, why):
        raise WrongPlace(self.line, 1, why)

    def has_more(self):
        return self.place < len(self.words)

    def take_word(self):
        self.place += 1
        if self.place > len(self.words):
            self.fail(CANNOT_STAND)
        return self.words[self.place - 1]

    def take_choice(self, choices):
        word = self.take_word()
        if word not in choices:
            self.fail(CANNOT_STAND)
        return word

    def take_name(self):
        word = self.take_word()
        if not is_name(word):
            self.fail(CANNOT_STAND)
        return word

    def take_number(self, least, most):
        word = self.take_word()
        if not is_number(word):
            self.fail(CANNOT_STAND)
        number = int(word)
        if number < least or number > most:
            self.fail(NOT_IN_RANGE)
        return number

    # Whether the word that may be left out stands here; it is passed then.
    def skip_word(self, word):
        if self.has_more() and self.words[self.place] == word:
            self.place += 1
            return True
        return False

    def finish(self):
        if self.has_more():
            self.place += 1
            self.fail(CANNOT_STAND)
