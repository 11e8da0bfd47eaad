"""All examples of the document, one behind the other, as they stand there."""

import unittest

from evenrules import errors
from helping import run_example

# The document uses these names without an import of its own.
ALSO = ["from evenrules.look_within import shows_within"]
MANY = 104
EXAMPLES = r"""
>>> from evenrules.checks import is_integer, is_key, is_within, need_key
>>> [is_integer(True), is_key(-(10 ** 30) + 1), is_key(10 ** 30), is_within(3, 3, 5), is_within("3", 3, 5)]
[False, True, False, True, False]
>>> need_key("1")
raises BadKey('1')
>>> from evenrules.straight import Test
>>> strip = Test((3, -2), 1)
>>> [str(strip), strip((1, 1)), strip.amount([1, 2]), str(~strip), str(-strip), str(strip + Test((0, 2), 5)), str(2 * strip), str(Test((6, -4), 3).tight()), Test.read("3 -2 >= 1") == strip]
['3 -2 >= 1', True, -1, '-3 2 >= 0', '-3 2 >= -1', '3 0 >= 6', '6 -4 >= 2', '3 -2 >= 2', True]
>>> Test.read("3 -2 > 1")
raises BadText(0, 2)
>>> from evenrules.look_settled import shows_none
>>> from evenrules.settled import Odd, Point, Split, Sum, Top, settled, top_of
>>> ends, even = [Test((1,), 3), Test((-1,), -2)], [Test((2, -2), 1), Test((-2, 2), -1)]
>>> [isinstance(settled(ends), Sum), shows_none(ends, Sum((2, 2))), bool(settled(even)), shows_none(even, Odd((1, 0), 2)), shows_none(even, Odd((1, 1), 2))]
[True, True, False, True, False]
>>> thirds = [Test((3,), 1), Test((-3,), -2)]
>>> first, second = Odd((1, 0, 0, 0), 3), Odd((0, 0, 1, 0), 3)
>>> [shows_none(thirds, settled(thirds)), shows_none(thirds, Split(0, (1, 1), (first, second))), shows_none(thirds, Split(0, (1, 1), (first,)))]
[True, True, False]
>>> told = top_of([Test((1, 0), 1), Test((-2, 3), -4), Test((0, -1), -5)], 0)
>>> [told.high * 2 == told.low * 19, Top(19, 2, (0, 1, 3)) == Top(19, 2, (0, 1, 3)), top_of([Test((1, 0), 1)], 0), bool(settled([strip, ~Test((3, -2), 2), Test((1, 0), 10)]))]
[True, True, None, True]
>>> from evenrules.rules import Rule, TryRule, TurnRule, WeightRule
>>> three, four = TurnRule((3, 1), turn=(2, 1), turn_plus=-1), TurnRule((4, 1), turn=(2, 1), turn_plus=-1)
>>> [str(three), str(TryRule((5, 2), -1)), three(2, 6), three(2, 7), three.greatest(5), three.least(7), TryRule((5, 2), -1).greatest(3)]
['turn 3/1 0 2/1 -1', 'try 5/2 -1', True, False, 15, 3, 7]
>>> [three.turns(1, 3, 2, 2), three.turns(1, 4, 2, 2), TryRule((2, 1)).turns(1, 3, 2, 2), WeightRule.read("turn 4/1 0 2/1 -1") == four]
[1, 2, 2, True]
>>> TurnRule((3, 2), turn=(1, 1))
raises NoHalves(3)
>>> WeightRule.read("turn 4/1 0 2/1")
raises BadText(0, 4)
>>> from evenrules.rules import TryRule, TurnRule
>>> from evenrules.within import Parted, Within, same_trees, tests_within, within
>>> thrice, less = TryRule((3, 1)), TryRule((5, 2))
>>> [bool(within(less, thrice)), within(thrice, less) == Parted(1, 3), [str(test) for test in tests_within(less, thrice)]]
[True, True, ['1 0 >= 1', '5 -2 >= 0', '-3 1 >= 1']]
>>> [same_trees(TryRule((4, 2), 1), TryRule((2, 1))), same_trees(thrice, TurnRule((3, 1), turn=(2, 1))), shows_within(thrice, less, Parted(3, 8))]
[True, True, True]
>>> from evenrules.heights import greatest_height, halves_shape, height_of, heights, is_fair, keys_of, least_height, least_keys, tall_shape
>>> [[least_keys(thrice, height) for height in range(8)], greatest_height(thrice, 4), greatest_height(thrice, 13), least_height(13), least_height(0)]
[[0, 1, 2, 3, 5, 7, 10, 14], 3, 6, 4, 0]
>>> [halves_shape(2), tall_shape(thrice, 3), keys_of(halves_shape(9)), is_fair(thrice, ((((), ()), ()), ())), is_fair(less, ((((), ()), ()), ()))]
[(((), ()), ()), ((((), ()), ()), ()), 9, True, False]
>>> from evenrules.counts import counts, place_of, shape_at, shapes
>>> [counts(thrice, 5), len(list(shapes(thrice, 4))), shape_at(thrice, 2, 0), place_of(thrice, (((), ()), ())), counts(less, 3)]
[(1, 1, 2, 5, 4, 14), 4, ((), ((), ())), 1, (1, 1, 2, 1)]
>>> from evenrules.rules import Rule, TurnRule
>>> from evenrules.trees import Tree
>>> rule = TurnRule((3, 1), turn=(2, 1), turn_plus=-1)
>>> tree = Tree(rule, [(1, "a"), (2, "b"), (3, "c"), (4, "d")])
>>> [str(tree), len(tree), 3 in tree, True in tree, list(tree), list(tree.falling()), tree[2], tree.get(9, "-"), tree.layout]
['(1) 2 (3 (4))', 4, True, False, [1, 2, 3, 4], [4, 3, 2, 1], 'b', '-', (((), 1, ()), 2, ((), 3, ((), 4, ())))]
>>> [tree.least(), tree.greatest(), tree.below(1), tree.above(1), tree.place(3), tree.place(99), tree.key_at(0), tree.depth(4), tree.height, list(tree.between(2, 4))]
[1, 4, None, 2, 2, 4, 1, 2, 3, [(2, 'b'), (3, 'c')]]
>>> tree[9]
raises NoKey(9)
>>> tree.key_at(4)
raises BadNumber(4)
>>> low, high = tree // 3, tree % 3
>>> [str(low), str(high), str(low + high), str(tree.cut(2, 4)), str(tree.cut(high=3)), low < tree, tree <= low]
['(1) 2', '(3) 4', '((1) 2) 3 (4)', '(2) 3', '(1) 2', True, False]
>>> both = low | Tree(rule, [(2, "x"), (5, "y")])
>>> [str(both), both[2], (low & both)[2], list(both - low), str(tree - tree)]
['(1) 2 (5)', 'x', 'b', [5], '-']
>>> high + low
raises Overlap(1)
>>> from evenrules.trees import Tree
>>> tree = Tree(three, [(1, "p"), (2, "q"), (3, "r")])
>>> [tree.layout, tree.height, len(tree)]
[((), 1, ((), 2, ((), 3, ()))), 3, 3]
>>> tree[4] = "s"
>>> tree.layout
(((), 1, ()), 2, ((), 3, ((), 4, ())))
>>> tree.put(5)
>>> [tree.drop(1), tree.layout, tree.unfair()]
['p', (((), 2, ()), 3, ((), 4, ((), 5, ()))), ()]
>>> long = Tree(TryRule((3, 1)), [(1, None), (2, None), (3, None)])
>>> long.rule = TryRule((2, 1))
>>> [long.layout, long == Tree.halves(three, [(3, None), (2, None), (1, None)])]
[(((), 1, ()), 2, ((), 3, ())), True]
>>> tree.tried(lambda same: [same.drop(3), len(same), same.layout])
['r', 3, (((), 2, ()), 4, ((), 5, ()))]
>>> [len(tree), tree[3]]
[4, 'r']
>>> tree.drop(7)
raises NoKey(7)
>>> from evenrules.cases import Case, cases, numbers_break, tests_of
>>> some = list(cases(four, "take"))
>>> [len(some), some[1] == Case("take", ("light", "second"), None), some[4] == Case("take", None, ("inner", "none")), len(list(cases(TryRule((3, 1)), "put")))]
[11, True, True, 28]
>>> [str(test) for test in tests_of(four, some[1])]
['1 0 0 >= 1', '0 1 0 >= 1', '0 0 1 >= 1', '-4 1 1 >= 1', '4 -1 -1 >= -4', '0 4 -1 >= 0', '0 -1 4 >= 0', '0 -1 2 >= 1', '-4 1 0 >= 1']
>>> [numbers_break(four, some[1], (1, 5, 3)), numbers_break(four, some[1], (1, 4, 4))]
[True, False]
>>> from evenrules.falls import fall_of
>>> from evenrules.judged import From, Right, Wrong, breaks, judge
>>> told = judge(four)
>>> [bool(told), told.deed, told.once, told.twice, told.numbers]
[False, 'take', ('light', 'second'), None, (1, 5, 3)]
>>> tree, key = fall_of(four, told)
>>> [tree.layout[:2], key, tree.unfair(), tree.drop(key), tree.unfair()]
[(((), 1, ()), 2), 1, (), None, (2,)]
>>> [bool(judge(three)), len(judge(three).papers), breaks(four, "take", 1, 7), breaks(four, "put", 1, 5)]
[True, 22, None, None]
>>> bool(judge(TurnRule((3, 1), turn=(3, 1), turn_plus=6), "put"))
False
>>> from evenrules.met import Met, Never, met, shows_met, tests_met
>>> once = TurnRule((3, 1), turn=(2, 1), turn_plus=-1)
>>> [met(once, "put", 1) == Met(1, 1, 3), met(once, "put", 2) == Met(1, 3, 1), bool(met(TurnRule((2, 1), turn=(8, 1)), "take", 2))]
[True, True, False]
>>> [len(tests_met(once, "put", 1)), shows_met(once, "put", 1, Met(1, 2, 2)), shows_met(once, "put", 1, Met(1, 3, 1))]
[8, True, False]
>>> from evenrules.fills import FillRule, Fits, Spill, Spills, judge_fill, levels_for, pages_for, right_sizes, spill_of
>>> from evenrules.look_fills import shows_fill
>>> from evenrules.rows import Row
>>> half, thin = FillRule((1, 2)), FillRule((2, 3), join_of=3)
>>> [half.least_fill(4), half.width, half.fits(4), judge_fill(half) == Fits(2, ()), judge_fill(FillRule((2, 3), cut_of=2, join_of=3)) == Fits(2, ())]
[2, 2, True, True, True]
>>> [judge_fill(thin) == Spills(6, 3), list(right_sizes(thin, 2, 12)), spill_of(thin, 6) == Spill(6, (6, 6, 6, 6), "put", (4, 3, 6, 6, 6))]
[True, [2, 3, 4, 5, 7], True]
>>> [spill_of(FillRule((2, 3), cut_of=2), 6).behind, pages_for(half, 4, 9), pages_for(thin, 6, 7), levels_for(half, 4, 9), shows_fill(thin, Spills(9, 3)), shows_fill(thin, Spills(7, 3))]
[(7, 4, 4), (3, 4), None, (2, 3), True, False]
>>> row = Row(half, 4, (3, 3, 4))
>>> [row.put(10)[0].fills, row.put(10)[1], row.put(0)[0].fills, row.take(0)[0].fills, row.take(0)[1], row.is_young, row.page_of(6)]
[(3, 3, 3, 2), ('more', 3), (4, 3, 4), (2, 3, 4), None, False, 2]
>>> [Row(half, 4, (3, 3, 3, 2)).take(10)[0].fills, Row(half, 4, (3, 3, 2, 2)).take(9) == (Row(half, 4, (3, 3, 3)), ("fewer", 3)), Row(half, 4, (4, 4)).put(3)[0].fills]
[(3, 3, 2, 2), True, (3, 3, 3)]
>>> from evenrules.shelves import Shelf
>>> shelf = Shelf(half, 4, [(10 * number, None) for number in range(1, 10)])
>>> [shelf.pages, shelf.levels, shelf.page_of(55), shelf.page_of(5)]
[((10, 20, 30), (40, 50, 60), (70, 80, 90)), ((3, 3, 3), (3,)), 1, 0]
>>> [shelf.put(95, "x"), shelf.put(96), shelf.levels, shelf.drop(96), shelf.levels, shelf.drop(95), shelf.levels, shelf.keeps]
[None, None, ((3, 3, 3, 2), (4,)), None, ((3, 3, 2, 2), (4,)), 'x', ((3, 3, 3), (3,)), True]
>>> [Shelf.built(half, 4, [(number, None) for number in range(14)]).levels, shelf.tried(lambda same: [same.drop(key) for key in (10, 20, 30, 40, 50)]), len(shelf)]
[((4, 4, 3, 3), (4,)), [None, None, None, None, None], 9]
>>> shelf.drop(15)
raises NoKey(15)
>>> from evenrules.reader import read_tree
>>> from evenrules.texts import tree_text
>>> small = Tree(rule, [(2, 7), (1, None)])
>>> [tree_text(small).split("\n"), str(read_tree("tree try 3/1 0\n1 0\n3 none\n2 -5")), read_tree(tree_text(small)) == small]
[['tree turn 3/1 0 2/1 -1', '2 7', '1 none'], '1 ((2) 3)', True]
>>> read_tree("tree try 3/1 0\n2 7\n3 0\n1 4")
raises BadText(3, 0)
>>> read_tree("tree try 3/1\n2 7")
raises BadText(0, 3)
>>> from evenrules.desk import Desk
>>> desk = Desk()
>>> desk.run("rule r turn 3/1 0 2/1 -1", "tree t r", "put t 1 5", "put t 2", "put t 3", "put t 4", "shape t", "take t 1", "shape t", "unfair t", "split t 3 u", "shape u")
['ok', 'ok', 'ok', 'ok', 'ok', 'ok', '(1) 2 (3 (4))', '5', '2 (3 (4))', '-', 'ok', '(3) 4']
>>> desk.run("rule d turn 4/1 0 2/1 -1", "judge r take", "judge d take", "undo", "undo", "shape t", "show t", "within r r", "least r 5", "most r 13")
['ok', 'right', 'wrong take light second - 1 5 3', 'ok', 'ok', '2 (3 (4))', 'tree turn 3/1 0 2/1 -1 ; 2 none ; 3 none ; 4 none', 'within', '7', '6']
>>> desk.run("fill f fill 1/2 0 1 2", "shelf h f 2", "put h 1", "put h 3", "put h 2 7", "levels h", "fits f", "show h", "take h 2")
['ok', 'ok', 'ok', 'ok', 'ok', '2 1 / 2', 'fits 2', 'shelf 2 fill 1/2 0 1 2 ; row 2 1 ; row 2 ; 1 none ; 2 7 ; 3 none', '7']
>>> desk("shape u")
raises NoName('u')
>>> desk("put t 01")
raises BadCommand(2)
"""


class ExamplesTest(unittest.TestCase):

    def test_examples(self):
        space = {name: getattr(errors, name) for name in dir(errors)}
        for line in ALSO:
            exec(line, space)
        lines = EXAMPLES.strip().split("\n")
        at, many = 0, 0
        while at < len(lines):
            source, told = lines[at], None
            if at + 1 < len(lines) and not lines[at + 1].startswith(">>> "):
                told = lines[at + 1]
            at += 1 if told is None else 2
            self.assertEqual(source[:4], ">>> ")
            run_example(self, space, source[4:], told)
            many += 1
        self.assertEqual(many, MANY)


if __name__ == "__main__":
    unittest.main()
