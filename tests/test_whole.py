"""What is promised over the whole program: one map kept in several ways, texts at every state, falls at the desk."""

import random
import unittest

import paging
import playing
from evenrules.counts import counts, shape_at
from evenrules.desk import Desk
from evenrules.errors import BadText, FairError, Stuck
from evenrules.falls import fall_of
from evenrules.fills import FillRule, judge_fill, levels_for, pages_for, spill_of
from evenrules.heights import greatest_height, is_fair, least_height
from evenrules.judged import judge
from evenrules.look_fills import shows_fill
from evenrules.look_judged import shows_judged
from evenrules.met import met, shows_met
from evenrules.reader import read_shelf, read_tree
from evenrules.rows import Row
from evenrules.rules import TryRule, TurnRule, WeightRule
from evenrules.shelves import Shelf
from evenrules.texts import shelf_text, tree_text
from evenrules.trees import Tree
from test_fills import HALF, THIN, some_fills
from test_judged import FAIR, LATE, RIGHT, some_rules

LONG = 10 ** 30 - 1
MAPS = [("turn 3/1 0 2/1 -1", "fill 1/2 0 1 2", 4), ("try 5/2 -1", "fill 2/3 0 2 3", 5), ("try 6/2 6", "fill 1/2 0 1 2", 2),
        ("turn 5/2 2 6/4 0", "fill 3/4 0 3 4", 8), ("try 3/1 0", "fill 1/3 1 5 6", 3)]


class OneMapTest(unittest.TestCase):
    """One map as a tree, as a shelf, at a desk, and as a dict."""

    def test_one_map_in_four_ways(self):
        for at, (rule_text, fill_text, most) in enumerate(MAPS):
            random.seed(200 + at)
            tree, desk, table = Tree(WeightRule.read(rule_text)), Desk(), {}
            shelf = Shelf(FillRule.read(fill_text), most)
            desk.run(f"rule r {rule_text}", f"fill f {fill_text}", "tree t r", f"shelf h f {most}")
            for number in range(150):
                key = random.choice([random.randint(-20, 20), random.randint(-LONG, LONG)])
                if random.random() < (0.2 if number < 90 else 0.7) and table:
                    key = random.choice(sorted(table))
                    wanted = table.pop(key)
                    word = "none" if wanted is None else str(wanted)
                    self.assertEqual((tree.drop(key), shelf.drop(key), desk(f"take t {key}"), desk(f"take h {key}")),
                                     (wanted, wanted, word, word))
                else:
                    value = random.choice([None, number, -LONG])
                    word = "none" if value is None else str(value)
                    tree[key] = shelf[key] = table[key] = value
                    self.assertEqual(desk.run(f"put t {key} {word}", f"put h {key} {word}"), ["ok", "ok"])
                self.check(tree, shelf, desk, table, key)

    def check(self, tree, shelf, desk, table, key):
        """That all four have the same keys and values, and are as fair as their rules promise."""
        keys = sorted(table)
        for held in (tree, shelf):
            self.assertEqual((list(held), len(held), [held[other] for other in keys]),
                             (keys, len(keys), [table[other] for other in keys]))
            self.assertIs(key in held, key in table)
            self.assertEqual(held.get(key, "other"), table.get(key, "other"))
        self.assertEqual(list(tree.between(-20, 20)), list(shelf.stretch(-20, 20)))
        self.assertEqual((tree.unfair(), shelf.keeps, desk("unfair t")), ((), True, "-"))
        self.assertEqual((desk("count t"), desk("count h"), desk("shape t"), desk("height t")),
                         (str(len(keys)), str(len(keys)), str(tree), str(tree.height)))
        self.assertEqual(desk("show t"), tree_text(tree).replace("\n", " ; "))
        self.assertEqual(desk("show h"), shelf_text(shelf).replace("\n", " ; "))
        self.assertLessEqual(least_height(len(keys)), tree.height)
        self.assertLessEqual(tree.height, greatest_height(tree.rule, len(keys)))
        bound = levels_for(shelf.fill_rule, shelf.most, len(keys))[1]
        self.assertTrue(bound is None or len(shelf.levels) <= bound)
        if shelf.levels and len(shelf.levels[0]) > shelf.fill_rule.width:
            fewest, greatest = pages_for(shelf.fill_rule, shelf.most, len(keys))
            self.assertTrue(fewest <= len(shelf.levels[0]) <= greatest)

    def test_rows_and_shelves(self):
        # The bottom row of a shelf is as a row alone; what a deed is for the row above is done there.
        for rule in [HALF, THIN, *some_fills(211, 20)]:
            for most in (2, 5, 6):
                if not 1 <= paging.numbers_of(rule, most)[1] <= most:
                    continue
                random.seed(212)
                shelf, row, above = Shelf(rule, most), Row(rule, most), None
                for _ in range(90):
                    key = random.randint(0, 40)
                    ahead = len(list(shelf.stretch(-1, key)))
                    if key in shelf:
                        shelf.drop(key)
                        row, deed = row.take(ahead)
                    else:
                        shelf.put(key)
                        row, deed = row.put(ahead)
                    if len(row) < 2:
                        above = None
                    elif above is None:
                        above = Row(rule, most, (2,))
                    elif deed is not None:
                        above, _ = above.put(deed[1]) if deed[0] == "more" else above.take(deed[1])
                    self.assertEqual(shelf.levels[:2], tuple(level.fills for level in (row, above) if level))
                    self.assertIs(row.keeps, Row(rule, most, shelf.levels[0]).keeps if shelf.levels else True)


class TextsTest(unittest.TestCase):

    def test_texts_at_every_state_of_a_desk(self):
        random.seed(221)
        for rule_text, fill_text, most in MAPS:
            desk = Desk()
            desk.run(f"rule r {rule_text}", "rule s try 2/1 0", f"fill f {fill_text}", "tree t r", "tree u s", f"shelf h f {most}")
            for _ in range(120):
                line = random.choice(["put t {} {}", "put t {}", "put h {}", "put h {} {}", "take t {}", "take h {}", "put u {}",
                                      "split t {} u", "join u t", "exchange t s", "exchange u r", "undo"])
                try:
                    desk.say(line.format(random.randint(-9, 30), random.randint(-LONG, LONG)))
                except FairError:
                    pass
                self.check(desk)

    def check(self, desk):
        for name in desk.names:
            text = desk.say(f"show {name}").replace(" ; ", "\n")
            if text.startswith("tree"):
                tree = read_tree(text)
                self.assertEqual((tree_text(tree), str(tree)), (text, desk.say(f"shape {name}")))
                self.assertEqual(desk.say(f"count {name}"), str(len(tree)))
            elif text.startswith("shelf"):
                shelf = read_shelf(text)
                self.assertEqual(shelf_text(shelf), text)
                self.assertEqual(desk.say(f"levels {name}").replace("-", ""),
                                 " / ".join(" ".join(map(str, row)) for row in shelf.levels))

    def test_a_thing_that_is_read_is_put_at_a_desk_line_by_line(self):
        tree = Tree(TryRule((3, 1)), [(key * 7 % 31, key) for key in range(31)])
        desk = Desk()
        desk.run("rule r try 3/1 0", "tree t r")
        for line in tree_text(tree).split("\n")[1:]:
            desk.say(f"put t {line}")
        self.assertEqual(desk.say("count t"), "31")
        self.assertEqual({key: desk.say(f"get t {key}") for key in tree}, {key: str(tree[key]) for key in tree})


class FallsTest(unittest.TestCase):

    def test_falls_at_the_desk_line_by_line(self):
        kinds = {}
        for rule in [*some_rules(231, 120), TurnRule((3, 1), turn=(1, 2), turn_plus=-6)]:
            for deeds in ("put", "take", "both"):
                wrong = judge(rule, deeds)
                if wrong or sum(wrong.numbers) > 60:
                    continue
                self.assertIs(shows_judged(rule, deeds, wrong), True)
                tree, key = fall_of(rule, wrong)
                desk = Desk()
                desk.run(f"rule r {rule}", "tree t r")
                # Every fair tree can be come to by puts alone, none of which turns a node.
                for other in playing.way_of_puts(tree.layout):
                    self.assertEqual(desk.run(f"put t {other}", "unfair t"), ["ok", "-"])
                self.assertEqual(desk("shape t"), str(tree))
                self.assertEqual(desk(f"judge r {deeds}").split(" ")[:2], ["wrong", wrong.deed])
                kinds[self.spoil(desk, wrong.deed, key)] = True
        self.assertEqual(set(kinds), {("put", True), ("put", False), ("take", True), ("take", False)})

    def spoil(self, desk, deed, key):
        """That the deed is stuck or leaves a node that is not fair; the deed, and whether it is stuck."""
        shape, many = desk("shape t"), len(desk)
        try:
            desk(f"{deed} t {key}")
        except Stuck as why:
            self.assertEqual((why.key, desk("shape t"), len(desk), desk("unfair t")), (key, shape, many, "-"))
            return deed, True
        self.assertNotEqual(desk("unfair t"), "-")
        self.assertEqual(desk.run("undo", "shape t", "unfair t"), ["ok", shape, "-"])
        return deed, False

    def test_right_rules_through_rows_of_deeds(self):
        random.seed(232)
        for text in RIGHT + LATE:
            desk = Desk()
            desk.run(f"rule r {text}", "tree t r")
            self.assertEqual(desk("judge r both"), "right")
            keys = []
            for number in range(120):
                if not keys or random.random() < (0.8 if number < 60 else 0.3):
                    key = random.randint(0, 1000)
                    desk(f"put t {key}")
                    keys = sorted({*keys, key})
                else:
                    key = keys.pop(random.randrange(len(keys)))
                    desk(f"take t {key}")
                self.assertEqual((desk("unfair t"), desk("count t")), ("-", str(len(keys))))

    def test_spills_at_the_desk(self):
        # A row of a wrong fill rule that one deed spoils is one that a shelf can have.
        many = 0
        for rule in some_fills(233, 120):
            for most in (3, 6, 7):
                try:
                    spill = spill_of(rule, most)
                except FairError:
                    continue
                many += 1
                shelf = read_shelf(self.text(rule, most, spill.fills))
                self.assertEqual(shelf.levels[0], spill.fills)
                if spill.deed == "put":
                    shelf.put(-1)
                else:
                    shelf.drop(0)
                self.assertEqual((shelf.levels[0], shelf.keeps), (spill.behind, False))
                self.assertIs(shows_fill(rule, spill), True)
                if max(shelf.levels[0]) > most:
                    with self.assertRaises(BadText):
                        read_shelf(shelf_text(shelf))
        self.assertGreater(many, 50)

    def text(self, rule, most, fills):
        """The text of a shelf with this bottom row; the rows above are dealt to the fewest pages."""
        rows = [fills]
        while len(rows[-1]) > 1:
            rows.append(tuple(len(page) for page in paging.built(rule, most, range(len(rows[-1]))).rows[0]))
        lines = [f"shelf {most} {rule}", *["row " + " ".join(map(str, row)) for row in rows]]
        return "\n".join([*lines, *[f"{key} none" for key in range(sum(fills))]])


class AnswersTest(unittest.TestCase):

    def test_the_desk_tells_what_the_functions_tell(self):
        desk = Desk()
        for rule in some_rules(241, 40):
            desk.say(f"rule r {rule}")
            for deeds in ("put", "take", "both"):
                told = judge(rule, deeds)
                self.assertEqual(desk(f"judge r {deeds}") == "right", bool(told))
                self.assertIs(shows_judged(rule, deeds, told), True)
            if isinstance(rule, TurnRule):
                for deed in ("put", "take"):
                    self.assertIs(shows_met(rule, deed, 1, met(rule, deed, 1)), True)
        for rule in some_fills(242, 40):
            desk.say(f"fill f {rule}")
            told = judge_fill(rule)
            self.assertEqual(desk("fits f").split(" ")[:2], ["fits" if told else "spills", str(told.size)])

    def test_shapes_of_all_kinds_stand_at_the_desk(self):
        random.seed(243)
        for p, q, k in random.sample(FAIR, 25):
            rule = TryRule((p, q), k)
            keys = random.randint(1, 14)
            shape = shape_at(rule, keys, random.randrange(counts(rule, keys)[keys]))
            layout = playing.layout_of(shape)
            desk = Desk()
            desk.run(f"rule r {rule}", "tree t r", *[f"put t {key}" for key in playing.way_of_puts(layout)])
            self.assertEqual(desk("shape t"), playing.text(layout))
            self.assertIs(is_fair(rule, shape), True)

    def test_nothing_that_was_passed_is_changed(self):
        fills, items, lines = [1, 2, 3], [(1, [2]), (3, {4: 5})], ["rule r try 3/1 0", "tree t r"]
        Row(HALF, 4, fills).put(2)
        tree, shelf = Tree(TryRule((3, 1)), items), Shelf(HALF, 4, items)
        shelf.drop(1)
        tree.drop(3)
        Desk().run(*lines)
        self.assertEqual((fills, items, lines), ([1, 2, 3], [(1, [2]), (3, {4: 5})], ["rule r try 3/1 0", "tree t r"]))


if __name__ == "__main__":
    unittest.main()
