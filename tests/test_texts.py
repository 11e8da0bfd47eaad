"""Texts of trees and shelves, written and read, and the first word that cannot stand in others."""

import random
import unittest

import paging
import playing
from evenrules.errors import BadNumber, BadOther, BadText
from evenrules.fills import FillRule
from evenrules.reader import read_shelf, read_tree
from evenrules.rules import TryRule, TurnRule
from evenrules.shelves import Shelf
from evenrules.texts import shelf_text, tree_text
from evenrules.trees import Tree
from helping import any_values, assert_raises, run_examples
from test_fills import GREAT, HALF, THIN, some_fills
from test_judged import some_rules
from wording import near, wrong_in_shelf, wrong_in_tree

EXAMPLES = """
>>> from evenrules.rules import Rule, TurnRule
>>> from evenrules.trees import Tree
>>> rule = TurnRule((3, 1), turn=(2, 1), turn_plus=-1)
>>> from evenrules.reader import read_tree
>>> from evenrules.texts import tree_text
>>> small = Tree(rule, [(2, 7), (1, None)])
>>> [tree_text(small).split("\\n"), str(read_tree("tree try 3/1 0\\n1 0\\n3 none\\n2 -5")), read_tree(tree_text(small)) == small]
[['tree turn 3/1 0 2/1 -1', '2 7', '1 none'], '1 ((2) 3)', True]
>>> read_tree("tree try 3/1 0\\n2 7\\n3 0\\n1 4")
raises BadText(3, 0)
>>> read_tree("tree try 3/1\\n2 7")
raises BadText(0, 3)
"""
WIDE = TryRule((6, 1), 6)
TURN = TurnRule((3, 1), turn=(2, 1), turn_plus=-1)
LONG = 10 ** 30 - 1
WORDS = ["", "tree", "shelf", "row", "none", "0", "1", "2", "5", "-1", "7", "3/1", "1/2", "turn", "try", "fill", "None", "x", "1.0",
         "00", str(10 ** 30), "-" + str(10 ** 30), "2001", "12", "--1", "\u0663", "1_0", " 1"]


def layouts(keys):
    """All layouts of sorted keys."""
    if not keys:
        return [()]
    return [(left, keys[at], right) for at in range(len(keys)) for left in layouts(keys[:at])
            for right in layouts(keys[at + 1:])]


def lines_of(layout, values):
    """The lines of a layout, a node ahead of its sides."""
    if layout == ():
        return []
    left, key, right = layout
    value = "none" if values[key] is None else str(values[key])
    return [f"{key} {value}", *lines_of(left, values), *lines_of(right, values)]


def high_keys(many):
    """Keys of a tree as high as it has keys, in the order of its text: from both ends by turns."""
    low, high, found = 0, many - 1, []
    while low <= high:
        found.append(low)
        low += 1
        if low <= high:
            found.append(high)
            high -= 1
    return found


class TreeTextTest(unittest.TestCase):

    def test_examples(self):
        run_examples(self, EXAMPLES)

    def test_all_small_layouts(self):
        for many in range(7):
            keys = [3 * key - 7 for key in range(many)]
            values = {key: None if key % 2 else key - 4 for key in keys}
            for layout in layouts(keys):
                text = "\n".join([f"tree {TURN}", *lines_of(layout, values)])
                tree = read_tree(text)
                self.assertIs(tree.__class__, Tree)
                self.assertEqual((tree.layout, tree.rule, {key: tree[key] for key in tree}), (layout, TURN, values))
                self.assertEqual(tree_text(tree), text)
                self.assertEqual(tree.unfair(), tuple(playing.unfair_keys(TURN, layout)))

    def test_trees_through_deeds(self):
        random.seed(81)
        for rule in some_rules(82, 30):
            tree = Tree(rule)
            for number in range(60):
                key = random.randint(-20, 20)
                try:
                    if key in tree:
                        tree.drop(key)
                    else:
                        tree.put(key, random.choice([None, number, -LONG, LONG]))
                except Exception as why:
                    self.assertEqual(why.__class__.__name__, "Stuck")
                text = tree_text(tree)
                self.assertEqual(text, "\n".join([f"tree {rule}", *lines_of(tree.layout, {key: tree[key] for key in tree})]))
                other = read_tree(text)
                self.assertEqual((other, other.layout, other.rule), (tree, tree.layout, rule))
                self.assertEqual(tree_text(other), text)

    def test_what_is_read_goes_on_as_any_tree(self):
        random.seed(83)
        for layout in random.sample(layouts(list(range(0, 20, 2))), 80):
            tree = read_tree("\n".join([f"tree {WIDE}", *lines_of(layout, {key: None for key in range(20)})]))
            for key in random.sample(range(20), 12):
                layout = (playing.take if key in tree else playing.put)(WIDE, layout, key)
                if key in tree:
                    tree.drop(key)
                else:
                    tree.put(key)
                self.assertEqual((tree.layout, list(tree)), (layout, playing.keys_of_layout(layout)))
            twin = tree.twin()
            tree.exchange(TURN)
            self.assertEqual((tree.layout, tree.unfair()), (playing.exchanged(TURN, twin.layout), ()))

    def test_great_keys_and_values(self):
        text = f"tree try 3/1 0\n0 {LONG}\n-{LONG} -{LONG}\n{LONG} none"
        tree = read_tree(text)
        self.assertEqual((list(tree), tree[0], tree[-LONG], tree[LONG]), ([-LONG, 0, LONG], LONG, -LONG, None))
        self.assertEqual(tree_text(tree), text)
        self.assertEqual(tree_text(Tree(WIDE)), "tree try 6/1 6")
        self.assertEqual((len(read_tree("tree try 6/1 6")), read_tree(text="tree try 6/1 6").rule), (0, WIDE))

    def test_trees_as_high_as_they_have_keys(self):
        for keys in (range(2000), range(2000, 0, -1), high_keys(2000)):
            text = "\n".join(["tree try 3/1 0", *[f"{key} {key}" for key in keys]])
            tree = read_tree(text)
            self.assertEqual((len(tree), tree.height, tree_text(tree) == text), (2000, 2000, True))
            self.assertEqual((len(tree.unfair()), tree.depth(keys[-1])), (1997, 1999))
            self.assertEqual(str(tree).count("("), 1999)
            twin = tree.twin()
            twin.drop(keys[-1])
            self.assertLess(twin.height, 1999)
            self.assertEqual((len(twin), tree.height, list(tree)), (1999, 2000, sorted(keys)))
            tree.rule = TURN
            self.assertEqual((tree.height, tree.unfair()), (11, ()))

    def test_the_last_key_that_can_stand(self):
        keys = [key * 7919 % 2000 for key in range(2000)]
        tree = Tree(WIDE, [(key, None) for key in keys])
        text = tree_text(tree)
        self.assertEqual(read_tree(text).layout, tree.layout)
        assert_raises(self, BadText(2001, 0), read_tree, text + "\n2000 none")
        assert_raises(self, BadText(2001, 0), read_tree, text + "\n2000")
        assert_raises(self, BadText(2001, 0), read_tree, text + "\n")
        assert_raises(self, BadText(2000, 1), read_tree, text[:-5])

    def test_near_texts(self):
        texts = ["tree turn 3/1 0 2/1 -1\n5 none\n2 7\n3 0\n9 -4\n7 none", "tree try 5/2 -1\n1 1\n2 2\n3 3", "tree try 3/1 0",
                 "tree turn 1/1 1 8/8 6\n0 0"]
        counts = {True: 0, False: 0}
        for text in texts:
            self.assertIsNone(wrong_in_tree(text))
            for other in near(text, WORDS):
                wrong = wrong_in_tree(other)
                counts[wrong is None] += 1
                if wrong is None:
                    self.assertEqual(tree_text(read_tree(other)), other)
                else:
                    assert_raises(self, BadText(*wrong), read_tree, other)
        self.assertGreater(min(counts.values()), 40)

    def test_keys_in_orders_that_no_tree_has(self):
        random.seed(84)
        counts = {True: 0, False: 0}
        for _ in range(1500):
            keys = random.sample(range(-5, 6), random.randint(2, 7))
            if random.random() < 0.2:
                keys.append(random.choice(keys))
            text = "\n".join(["tree try 3/1 0", *[f"{key} none" for key in keys]])
            wrong = wrong_in_tree(text)
            counts[wrong is None] += 1
            if wrong is None:
                self.assertEqual(tree_text(read_tree(text)), text)
            else:
                assert_raises(self, BadText(*wrong), read_tree, text)
        self.assertGreater(min(counts.values()), 150)

    def test_rules_without_halves(self):
        for text, word in (("tree try 2/1 -1\n1 none", 2), ("tree turn 3/2 0 1/1 0", 2), ("tree turn 3/2 0 1/1", 5),
                           ("tree try 1/1 -6\nx", 2), ("tree", 1), ("tree turn", 2), ("tree try 3/1 0 0", 4), ("tree ", 1)):
            assert_raises(self, BadText(0, word), read_tree, text)

    def test_no_texts(self):
        for value in any_values():
            assert_raises(self, BadText(0, 0), read_tree, value)
            assert_raises(self, BadText(0, 0), read_shelf, value)

    def test_what_has_no_text(self):
        for value in any_values():
            if not isinstance(value, Tree):
                assert_raises(self, BadOther("tree"), tree_text, value)
            if not isinstance(value, Shelf):
                assert_raises(self, BadOther("shelf"), shelf_text, value)
            tree = Tree(WIDE, [(1, 5), (2, value), (3, None)])
            shelf = Shelf(HALF, 4, [(1, 5), (2, value), (3, None)])
            if value is None or (value.__class__ is int and abs(value) < 10 ** 30):
                self.assertEqual(read_tree(tree_text(tree)), tree)
                self.assertEqual(read_shelf(shelf_text(shelf)), shelf)
            else:
                assert_raises(self, BadOther("value"), tree_text, tree)
                assert_raises(self, BadOther("value"), shelf_text, shelf=shelf)


class ShelfTextTest(unittest.TestCase):

    def told_text(self, shelf):
        """The text of a shelf by the table."""
        lines = [f"shelf {shelf.most} {shelf.fill_rule}"]
        lines += ["row " + " ".join(str(fill) for fill in row) for row in shelf.levels]
        lines += [f"{key} {'none' if value is None else value}" for key, value in shelf.stretch(-LONG, LONG)]
        return "\n".join(lines)

    def test_shelves_through_deeds(self):
        random.seed(85)
        for rule in [HALF, THIN, *some_fills(86, 40)]:
            for most in (2, 3, 6):
                if not 1 <= paging.numbers_of(rule, most)[1] <= most:
                    continue
                shelf = Shelf(rule, most)
                for number in range(40):
                    key = random.randint(-20, 20)
                    if key in shelf:
                        shelf.drop(key)
                    else:
                        shelf.put(key, random.choice([None, number, -LONG, LONG]))
                    text = shelf_text(shelf)
                    self.assertEqual(text, self.told_text(shelf))
                    if max(max(row, default=0) for row in [(), *shelf.levels]) > most:
                        # A wrong rule has joined pages to one of more than MOST entries: no text has such a number.
                        assert_raises(self, BadText(*wrong_in_shelf(text)), read_shelf, text)
                        continue
                    other = read_shelf(text)
                    self.assertIs(other.__class__, Shelf)
                    self.assertEqual((other, other.pages, other.levels, other.fill_rule, other.most),
                                     (shelf, shelf.pages, shelf.levels, rule, most))
                    self.assertEqual(shelf_text(other), text)

    def test_rows_that_no_deeds_lead_to(self):
        text = "shelf 3 fill 1/2 0 1 2\nrow 3 1 1 2 3\nrow 1 2 1 1\nrow 2 1 1\nrow 1 2\nrow 1 1\nrow 2"
        text = "\n".join([text, *[f"{key} none" for key in range(10)]])
        shelf = read_shelf(text)
        self.assertEqual(shelf.levels, ((3, 1, 1, 2, 3), (1, 2, 1, 1), (2, 1, 1), (1, 2), (1, 1), (2,)))
        self.assertEqual((shelf.keeps, shelf_text(shelf)), (True, text))
        # Deeds go on from there by the words of point [9].
        model = paging.Rows(HALF, 3, [shelf.pages, *[[[None] * fill for fill in row] for row in shelf.levels[1:]]])
        for key in (100, 3, 50, 4, 5, 0, 1, 2, 6, 7, 8, 9, 100, 50):
            if key in shelf:
                shelf.drop(key)
                model.take(key)
            else:
                shelf.put(key)
                model.put(key)
            self.assertEqual((shelf.levels, list(shelf)), (model.fills(), model.keys()))
        thin = read_shelf("shelf 4 fill 1/1 0 1 2\nrow 1 1 1\nrow 3\n1 none\n2 none\n3 none")
        self.assertEqual((thin.levels, thin.keeps), (((1, 1, 1), (3,)), False))

    def test_without_keys(self):
        shelf = read_shelf("shelf 4 fill 1/2 0 1 2")
        self.assertEqual((len(shelf), shelf.levels, shelf_text(shelf)), (0, (), "shelf 4 fill 1/2 0 1 2"))
        self.assertEqual(read_shelf(text=f"shelf {GREAT} fill 1/2 0 1 2").most, GREAT)
        assert_raises(self, BadText(1, 1), read_shelf, "shelf 4 fill 1/2 0 1 2\nrow")
        assert_raises(self, BadText(1, 1), read_shelf, "shelf 4 fill 1/2 0 1 2\nrow ")
        assert_raises(self, BadText(1, 0), read_shelf, "shelf 4 fill 1/2 0 1 2\n1 none")
        assert_raises(self, BadText(1, 0), read_shelf, "shelf 4 fill 1/2 0 1 2\n")

    def test_near_texts(self):
        texts = ["shelf 4 fill 1/2 0 1 2\nrow 3 2 4\nrow 3\n" + "\n".join(f"{key} {key - 3}" for key in range(9)),
                 "shelf 2 fill 1/2 0 1 2\nrow 2 1 2\nrow 2 1\nrow 2\n-5 none\n-1 0\n0 none\n7 4\n8 none",
                 "shelf 7 fill 2/3 -1 5 6\nrow 2\n1 none\n2 none", "shelf 1000 fill 12/12 0 1 2"]
        counts = {True: 0, False: 0}
        for text in texts:
            self.assertIsNone(wrong_in_shelf(text))
            for other in near(text, WORDS):
                counts[self.check(other)] += 1
        self.assertGreater(min(counts.values()), 40)

    def check(self, text):
        """That a text is read, or refused by its first wrong word; whether it is read."""
        wrong = wrong_in_shelf(text)
        if wrong is not None:
            assert_raises(self, BadText(*wrong), read_shelf, text)
            return False
        words = text.split("\n")[0].split(" ")
        rule, most = FillRule.read(" ".join(words[2:])), int(words[1])
        if 1 <= rule.least_fill(most) <= most:
            self.assertEqual(shelf_text(read_shelf(text)), text)
        else:
            assert_raises(self, BadNumber(most), read_shelf, text)
        return True

    def test_rows_too_long_and_too_short(self):
        head, keys = "shelf 3 fill 1/2 0 1 2\n", "\n1 none\n2 none\n3 none\n4 none"
        for rows in ("row 3 1\nrow 2", "row 3 1\nrow 3", "row 3 1\nrow 1", "row 3 1\nrow 1 1", "row 3 1\nrow 1 1\nrow 2",
                     "row 3 1\nrow 2 1", "row 3 1", "row 4", "row 3 1\nrow 2\nrow 1", "row 3", "row 3 2\nrow 2", "row 3 1 0\nrow 3",
                     "row 1 1 1 1\nrow 2 2\nrow 2", "row 1 1 1 1\nrow 3\nrow 1", "row 1 1 1 1\nrow 3 1\nrow 2", "row 3 1\n\nrow 2",
                     "row 3 1\nrow", "row 3 1\nrows 2", "row 3 1\nrow -2", "row 3 1\nrow 2 ", "row\nrow", "row 3 1 \nrow 2",
                     "row 1 1 1 1\nrow 1 1 1 1\nrow 2 2\nrow 1 1\nrow 2", "row 1 1 1 1\nrow 1 1 1 1"):
            for text in (head + rows, head + rows + keys, head + rows + keys + "\n5 none", head + rows + "\n", head + rows + "\n1"):
                self.check(text)
        self.assertEqual(wrong_in_shelf(head + "row 3 1\nrow 1 1"), (3, 0))
        self.assertEqual(wrong_in_shelf(head + "row 3 1\nrow 1"), (2, 2))

    def test_how_many_keys(self):
        keys = "\n".join(f"{key} none" for key in range(2000))
        head = "shelf 3000 fill 1/12 0 1 2\n"
        for row in ("row 2000", "row 1999 1\nrow 2", "row 1 1999\nrow 2", "row 2001", "row 2000 1", "row 1 2000", "row 1999"):
            for end in ("", "\n2000 none", "\n"):
                self.check(f"{head}{row}\n{keys}{end}")
        shelf = Shelf(HALF, 2, [(key, key) for key in range(2000)])
        self.assertEqual(read_shelf(shelf_text(shelf)).levels, shelf.levels)
        assert_raises(self, BadText(1, 1), read_shelf, f"{head}row 2001\n{keys}\n2000 none")
        assert_raises(self, BadText(1, 2), read_shelf, f"{head}row 2000 1\nrow 2")

    def test_sizes_that_no_shelf_has(self):
        for most, rule in ((3, "fill 12/1 0 1 2"), (5, "fill 1/12 -12 1 2"), (2, "fill 1/2 -2 1 2")):
            text = f"shelf {most} {rule}"
            assert_raises(self, BadNumber(most), read_shelf, text)
            assert_raises(self, BadNumber(most), read_shelf, text + "\nrow 2\n1 none\n2 none")
            # What cannot stand comes first.
            assert_raises(self, BadText(3, 1), read_shelf, text + "\nrow 2\n1 none\n2")
            assert_raises(self, BadText(3, 0), read_shelf, text + "\nrow 2\n1 none")
        for most in ("1", "0", "-4", "02", str(GREAT + 1), "", "x", "2.0"):
            assert_raises(self, BadText(0, 1), read_shelf, f"shelf {most} fill 12/1 0 1 2")


if __name__ == "__main__":
    unittest.main()
