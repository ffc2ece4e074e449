"""Lines: asks and rules written as words."""

from armswing.asks import reading, resting, writing
from armswing.careful import Careful
from armswing.errors import NoLine, NoRule
from armswing.lifts import Lift, Sweep
from armswing.rules import First, Latest, Nearest, Soonest
from armswing.shares import Shares

FIGURES = "0123456789"
MOST_FIGURES = 15


def is_number(word):
    if len(word) < 1 or len(word) > MOST_FIGURES:
        return False
    if word[0] == "0" and word != "0":
        return False
    return all([sign in FIGURES for sign in word])


class Words:
    def __init__(self, line):
        self.words = line.split(" ")
        self.passed = 0

    def upcoming(self):
        return self.words[self.passed] if self.passed < len(self.words) else None

    def has_number(self):
        return self.upcoming() is not None and is_number(self.upcoming())

    def take_word(self, word):
        if self.upcoming() != word:
            raise NoLine("another word is to stand there")
        self.passed = self.passed + 1

    def take_number(self):
        if not self.has_number():
            raise NoLine("a number is to stand there")
        self.passed = self.passed + 1
        return int(self.words[self.passed - 1])

    def take_numbers(self):
        numbers = [self.take_number()]
        while self.has_number():
            numbers.append(self.take_number())
        return numbers

    def take_number_behind(self, word):
        self.take_word(word)
        return self.take_number()

    def take_end(self):
        if self.upcoming() is not None:
            raise NoLine("nothing more is to stand there")


def take_more(words):
    asker = words.take_number_behind("for") if words.upcoming() == "for" else 0
    latest = words.take_number_behind("by") if words.upcoming() == "by" else None
    behind = None
    if words.upcoming() == "behind":
        words.take_word("behind")
        behind = words.take_numbers()
    words.take_end()
    return (asker, latest, behind)


def read_of(words):
    first = words.take_number_behind("read")
    many = words.take_number()
    at = words.take_number_behind("at")
    more = take_more(words)
    return reading(first, many, at, more[0], more[1], more[2])


def write_of(words, early):
    first = words.take_number_behind("early" if early else "write")
    marks = words.take_numbers()
    at = words.take_number_behind("at")
    more = take_more(words)
    return writing(first, marks, at, more[0], more[1], more[2], early)


def rest_of(words):
    words.take_word("rest")
    at = words.take_number_behind("at")
    words.take_end()
    return resting(at)


def read_line(line):
    words = Words(line)
    kind = words.upcoming()
    if kind == "read":
        return read_of(words)
    if kind == "write" or kind == "early":
        return write_of(words, kind == "early")
    return rest_of(words)


def written(numbers):
    return [str(number) for number in numbers]


def kind_word(ask):
    return "early" if ask.early else ask.kind


def kind_numbers(ask):
    if ask.kind == "rest":
        return []
    return [ask.first, ask.many] if ask.kind == "read" else [ask.first] + list(ask.marks)


def shown(ask):
    words = [kind_word(ask)] + written(kind_numbers(ask)) + ["at", str(ask.at)]
    if ask.asker != 0:
        words.extend(["for", str(ask.asker)])
    if ask.latest is not None:
        words.extend(["by", str(ask.latest)])
    if ask.behind:
        words.extend(["behind"] + written(ask.behind))
    return " ".join(words)


def shares_of(line):
    words = line.split(" ")
    numbers = [int(word) for word in words[1:] if is_number(word)]
    if words[0] != "shares" or len(numbers) != len(words) - 1 or len(numbers) % 2 != 0:
        raise NoRule("no words of a rule")
    return Shares(list(zip(numbers[::2], numbers[1::2])))


def rule_of(line):
    if line == "first":
        return First()
    if line == "nearest":
        return Nearest()
    if line == "soonest":
        return Soonest()
    if line == "latest":
        return Latest()
    if line == "careful":
        return Careful()
    if line == "lift" or line == "calm lift":
        return Lift(line == "calm lift")
    if line == "sweep" or line == "calm sweep":
        return Sweep(line == "calm sweep")
    return shares_of(line)
