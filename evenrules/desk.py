"""Desks: rules, trees and shelves under names, told what to do line by line."""

from evenrules.commands import ANSWERS, CHANGES, need_names, wrong_command_word
from evenrules.errors import BadCommand


class Desk:
    """A desk, at first with nothing on it; the things on it never change: a line puts others in their places."""

    def __init__(self):
        self._things = {}
        # The things ahead of each line that can be taken back.
        self._past = []

    def __call__(self, line):
        return self.say(line)

    def say(self, line):
        """Carries out a line, and returns its answer."""
        if not isinstance(line, str):
            raise BadCommand(0)
        words = line.split(" ")
        wrong = wrong_command_word(words)
        if wrong is not None:
            raise BadCommand(wrong)
        if words[0] == "undo":
            return self.take_back()
        need_names(self._things, words)
        if words[0] in ANSWERS:
            answer = ANSWERS[words[0]]
            return answer(self._things, words)
        things = dict(self._things)
        change = CHANGES[words[0]]
        told = change(things, words)
        self._past.append(self._things)
        self._things = things
        return told

    def take_back(self):
        """Takes back the last line that is not taken back."""
        if len(self._past) == 0:
            return "nothing"
        self._things = self._past.pop()
        return "ok"

    def run(self, *lines):
        """The answers of lines; if one raises an error, nothing has changed."""
        draft = Desk()
        draft._things = self._things
        draft._past = list(self._past)
        answers = [draft.say(line) for line in lines]
        self._things = draft._things
        self._past = draft._past
        return answers

    @property
    def names(self):
        """The names of the things, ascending."""
        return tuple(sorted([str(name) for name in self._things]))

    def __len__(self):
        return len(self._past)
