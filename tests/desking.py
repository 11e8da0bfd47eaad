"""A desk by the words of its table: which word of a line is wrong, and what lines do with things that are copied first."""

from evenrules.errors import NoName
from evenrules.fills import FillRule, judge_fill
from evenrules.heights import greatest_height, least_keys
from evenrules.judged import judge
from evenrules.rules import Rule, WeightRule
from evenrules.shelves import Shelf
from evenrules.texts import shelf_text, tree_text
from evenrules.trees import Tree
from evenrules.within import within
from wording import is_key, is_value, number, wrong_fill, wrong_rule

# Each line of the table, as it stands there.
TABLE = ["rule N RULE", "fill N FILL", "tree N R", "shelf N F MOST", "put X KEY", "put X KEY VALUE", "take X KEY",
         "exchange T R", "split T KEY N", "join T U", "drop NAME", "undo", "show NAME", "shape T", "height T", "unfair T",
         "levels H", "count X", "get X KEY", "place T KEY", "judge R HOW", "within R S", "least R HEIGHT", "most R KEYS",
         "fits F"]
KINDS = {"R": WeightRule, "S": WeightRule, "F": FillRule, "T": Tree, "U": Tree, "H": Shelf, "X": (Tree, Shelf), "NAME": object}


def is_name(word):
    return 1 <= len(word) <= 8 and all("a" <= mark <= "z" for mark in word)


def can_stand(kind, word):
    if kind == "KEY":
        return is_key(word)
    if kind == "VALUE":
        return is_value(word)
    if kind == "HOW":
        return word in ("put", "take", "both")
    if kind in ("MOST", "HEIGHT", "KEYS"):
        return number(word, 0, 10 ** 30 - 1)
    return is_name(word)


def wrong_word(line):
    """The word that BadCommand tells; None if this is a line of the table."""
    if not isinstance(line, str):
        return 0
    words = line.split(" ")
    # What cannot stand in one form of a line may stand in another one.
    told = [wrong_in_form(form.split(" "), words) for form in TABLE if form.split(" ")[0] == words[0]]
    if not told:
        return 0
    return None if None in told else max(told)


def wrong_in_form(kinds, words):
    for at, kind in enumerate(kinds[1:], start=1):
        if kind in ("RULE", "FILL"):
            wrong = (wrong_rule if kind == "RULE" else wrong_fill)(words[at:])
            return None if wrong is None else at + wrong
        if at >= len(words) or not can_stand(kind, words[at]):
            return at
    return len(kinds) if len(words) > len(kinds) else None


class Played:
    """A desk whose things are copied ahead of each line."""

    def __init__(self):
        self.things = {}
        self.past = []

    def say(self, line):
        """The answer of a line of the table."""
        words = line.split(" ")
        form = next(form for form in TABLE if form.split(" ")[0] == words[0]
                    and wrong_in_form(form.split(" "), words) is None)
        if words[0] == "undo":
            if not self.past:
                return "nothing"
            self.things = self.past.pop()
            return "ok"
        for kind, word in zip(form.split(" ")[1:], words[1:]):
            if kind in KINDS and (word not in self.things or not isinstance(self.things[word], KINDS[kind])):
                raise NoName(word)
        before = {name: self.copied(thing) for name, thing in self.things.items()}
        try:
            answer = self.do(words)
        except Exception:
            self.things = before
            raise
        if answer == "ok" or words[0] == "take":
            self.past.append(before)
        return answer

    def copied(self, thing):
        return thing if isinstance(thing, Rule) else thing.twin()

    def do(self, words):
        things, first = self.things, words[0]
        key = int(words[2]) if first in ("put", "take", "split", "get", "place") else None
        if first == "rule":
            things[words[1]] = WeightRule.read(" ".join(words[2:]))
        elif first == "fill":
            things[words[1]] = FillRule.read(" ".join(words[2:]))
        elif first == "tree":
            things[words[1]] = Tree(things[words[2]])
        elif first == "shelf":
            things[words[1]] = Shelf(things[words[2]], int(words[3]))
        elif first == "put":
            things[words[1]][key] = None if words[3:] in ([], ["none"]) else int(words[3])
        elif first == "exchange":
            things[words[1]].rule = things[words[2]]
        elif first == "split":
            low, high = things[words[1]] // key, things[words[1]] % key
            things[words[1]] = low
            things[words[3]] = high
        elif first == "join":
            things[words[1]] = things[words[1]] + things[words[2]]
        elif first == "drop":
            del things[words[1]]
        else:
            return self.told(words, key)
        return "ok"

    def told(self, words, key):
        first, thing = words[0], self.things[words[1]]
        answers = {
            "take": lambda: value_word(thing.drop(key)), "show": lambda: shown(thing), "shape": lambda: str(thing),
            "height": lambda: str(thing.height), "unfair": lambda: " ".join(map(str, thing.unfair())) or "-",
            "levels": lambda: " / ".join(" ".join(map(str, row)) for row in thing.levels) or "-",
            "count": lambda: str(len(thing)), "get": lambda: value_word(thing[key]), "place": lambda: str(thing.place(key)),
            "judge": lambda: verdict(judge(thing, words[2])), "within": lambda: parted(within(thing, self.things[words[2]])),
            "least": lambda: str(least_keys(thing, int(words[2]))), "most": lambda: str(greatest_height(thing, int(words[2]))),
            "fits": lambda: fitted(judge_fill(thing)),
        }
        return answers[first]()


def value_word(value):
    return "none" if value is None else str(value)


def shown(thing):
    if isinstance(thing, Rule):
        return str(thing)
    text = tree_text(thing) if isinstance(thing, Tree) else shelf_text(thing)
    return " ; ".join(text.split("\n"))


def verdict(told):
    if told:
        return "right"
    words = ["wrong", told.deed]
    for pair in (told.once, told.twice):
        words += ["-"] if pair is None else list(pair)
    return " ".join([*words, *map(str, told.numbers)])


def parted(told):
    return "within" if told else f"parted {told.light} {told.heavy}"


def fitted(told):
    words = ["fits", told.size, *told.wrong] if told else ["spills", told.size, told.step]
    return " ".join(map(str, words))
