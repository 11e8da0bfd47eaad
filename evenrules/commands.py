"""The lines that a desk knows: which words can stand in them, and what they do with the things on the desk."""

from evenrules.checks import KEY_BOUND, is_key, is_name, is_within
from evenrules.entries import can_be_value, read_value, value_word
from evenrules.errors import NoName
from evenrules.fills import FillRule, judge_fill, wrong_fill_word
from evenrules.heights import greatest_height, least_keys
from evenrules.judged import judge
from evenrules.rules import Rule, WeightRule, wrong_rule_word
from evenrules.shelves import Shelf
from evenrules.texts import shelf_text, tree_text
from evenrules.trees import Tree
from evenrules.within import within
from evenrules.words import number_word, number_words, read_number

# The kinds of the words behind the first one: names of new things, of things by their kinds, and other words.
LINES = {
    "rule": ("new", "RULE"), "fill": ("new", "FILL"), "tree": ("new", "weights"), "shelf": ("new", "filling", "number"),
    "put": ("holder", "key", "value"), "take": ("holder", "key"), "exchange": ("tree", "weights"),
    "split": ("tree", "key", "new"), "join": ("tree", "tree"), "drop": ("thing",), "undo": (), "show": ("thing",),
    "shape": ("tree",), "height": ("tree",), "unfair": ("tree",), "levels": ("shelf",), "count": ("holder",),
    "get": ("holder", "key"), "place": ("tree", "key"), "judge": ("weights", "deeds"), "within": ("weights", "weights"),
    "least": ("weights", "number"), "most": ("weights", "number"), "fits": ("filling",),
}
NAMED = ("weights", "filling", "tree", "shelf", "holder", "thing")
DEEDS = ("put", "take", "both")


def wrong_command_word(words):
    """The index of the first word that cannot stand in a line, or lacks; None if it is a line of the table."""
    if words[0] not in LINES:
        return 0
    kinds = LINES[words[0]]
    for at, kind in enumerate(kinds, start=1):
        if kind in ("RULE", "FILL"):
            wrong = wrong_rule_word(words[at:]) if kind == "RULE" else wrong_fill_word(words[at:])
            return None if wrong is None else at + wrong
        if at == len(words):
            # Only the value of a put may lack.
            return None if kind == "value" else at
        if not can_stand_as(kind, words[at]):
            return at
    return len(kinds) + 1 if len(words) > len(kinds) + 1 else None


def can_stand_as(kind, word):
    """Whether a word is one of this kind."""
    if kind == "key":
        return is_key(read_number(word))
    if kind == "value":
        return can_be_value(word)
    if kind == "number":
        return is_within(read_number(word), 0, KEY_BOUND - 1)
    return word in DEEDS if kind == "deeds" else is_name(word)


def need_names(things, words):
    """Raises NoName for the first name of a line that stands for nothing, or for a thing of another kind."""
    for kind, word in zip(LINES[words[0]], words[1:]):
        if kind in NAMED and (word not in things or not is_of_kind(kind, things[word])):
            raise NoName(word)


def is_of_kind(kind, thing):
    """Whether a thing is one that a line wants."""
    if kind == "weights":
        return isinstance(thing, WeightRule)
    if kind == "filling":
        return isinstance(thing, FillRule)
    if kind == "tree":
        return isinstance(thing, Tree)
    return isinstance(thing, Shelf) if kind == "shelf" else kind == "thing" or isinstance(thing, (Tree, Shelf))


def add_rule(things, words):
    """A rule by weights under a name."""
    things[words[1]] = WeightRule.read(" ".join(words[2:]))
    return "ok"


def add_fill(things, words):
    """A fill rule under a name."""
    things[words[1]] = FillRule.read(" ".join(words[2:]))
    return "ok"


def add_tree(things, words):
    """A tree without keys under a name."""
    things[words[1]] = Tree(things[words[2]])
    return "ok"


def add_shelf(things, words):
    """A shelf without keys under a name."""
    things[words[1]] = Shelf(things[words[2]], read_number(words[3]))
    return "ok"


def put_key(things, words):
    """A put in a tree or a shelf."""
    holder = things[words[1]].twin()
    holder[read_number(words[2])] = read_value(words[3]) if len(words) > 3 else None
    things[words[1]] = holder
    return "ok"


def take_key(things, words):
    """A take from a tree or a shelf."""
    holder = things[words[1]].twin()
    worth = holder.drop(read_number(words[2]))
    things[words[1]] = holder
    return value_word(worth)


def exchange_rule(things, words):
    """Another rule for a tree."""
    tree = things[words[1]].twin()
    tree.exchange(things[words[2]])
    things[words[1]] = tree
    return "ok"


def split_tree(things, words):
    """A tree split by a key."""
    tree, key = things[words[1]], read_number(words[2])
    things[words[1]] = tree // key
    things[words[3]] = tree % key
    return "ok"


def join_trees(things, words):
    """A tree with another one added."""
    things[words[1]] = things[words[1]] + things[words[2]]
    return "ok"


def drop_thing(things, words):
    """A thing taken away."""
    del things[words[1]]
    return "ok"


def show_thing(things, words):
    """The text of a thing, in one line."""
    thing = things[words[1]]
    if isinstance(thing, Rule):
        return str(thing)
    text = tree_text(thing) if isinstance(thing, Tree) else shelf_text(thing)
    return text.replace("\n", " ; ")


def show_shape(things, words):
    """The str of a tree."""
    return str(things[words[1]])


def tell_height(things, words):
    """The height of a tree."""
    return str(things[words[1]].height)


def tell_unfair(things, words):
    """The keys of the nodes of a tree that are not fair."""
    found = things[words[1]].unfair()
    return number_words(found) if len(found) > 0 else "-"


def tell_levels(things, words):
    """The rows of a shelf."""
    rows = things[words[1]].levels
    return " / ".join([number_words(fills) for fills in rows]) if len(rows) > 0 else "-"


def tell_count(things, words):
    """The number of keys."""
    return str(len(things[words[1]]))


def tell_value(things, words):
    """The value of a key."""
    return value_word(things[words[1]][read_number(words[2])])


def tell_place(things, words):
    """The number of less keys."""
    return str(things[words[1]].place(read_number(words[2])))


def tell_verdict(things, words):
    """Whether a rule is right for deeds."""
    told = judge(things[words[1]], words[2])
    if told:
        return "right"
    return f"wrong {told.deed} {break_words(told.once)} {break_words(told.twice)} {number_words(told.numbers)}"


def break_words(pair):
    """The words of a break."""
    return "-" if pair is None else " ".join(pair)


def tell_within(things, words):
    """Whether every tree that is fair by one rule is fair by another one."""
    told = within(things[words[1]], things[words[2]])
    return "within" if told else f"parted {number_words((told.light, told.heavy))}"


def tell_least(things, words):
    """The least number of keys of a fair tree of a height."""
    return number_word(least_keys(things[words[1]], read_number(words[2])))


def tell_most(things, words):
    """The greatest height of a fair tree of so many keys."""
    return str(greatest_height(things[words[1]], read_number(words[2])))


def tell_fits(things, words):
    """For which sizes a fill rule is right."""
    told = judge_fill(things[words[1]])
    if told:
        return f"fits {number_words((told.size, *told.wrong))}"
    return f"spills {number_words((told.size, told.step))}"


# What each line does: it changes the dict of the things that it is given, or tells something of them.
CHANGES = {
    "rule": add_rule, "fill": add_fill, "tree": add_tree, "shelf": add_shelf, "put": put_key, "take": take_key,
    "exchange": exchange_rule, "split": split_tree, "join": join_trees, "drop": drop_thing,
}
ANSWERS = {
    "show": show_thing, "shape": show_shape, "height": tell_height, "unfair": tell_unfair, "levels": tell_levels,
    "count": tell_count, "get": tell_value, "place": tell_place, "judge": tell_verdict, "within": tell_within,
    "least": tell_least, "most": tell_most, "fits": tell_fits,
}
