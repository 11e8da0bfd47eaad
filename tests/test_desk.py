"""Desks: each line of the table, right and wrong, what is taken back, and what errors leave."""

import random
import unittest

from desking import TABLE, Played, wrong_word
from evenrules.desk import Desk
from evenrules.errors import (BadCommand, BadNumber, FairError, NoKey, NoName, Overlap, Stuck, TooMany)
from helping import any_values, assert_raises, run_examples
from wording import near_lines

EXAMPLES = """
>>> from evenrules.desk import Desk
>>> desk = Desk()
>>> desk.run("rule r turn 3/1 0 2/1 -1", "tree t r", "put t 1 5", "put t 2", "put t 3", "put t 4", "shape t", "take t 1", "shape t", "unfair t", "split t 3 u", "shape u")
['ok', 'ok', 'ok', 'ok', 'ok', 'ok', '(1) 2 (3 (4))', '5', '2 (3 (4))', '-', 'ok', '(3) 4']
>>> desk.run("rule d turn 4/1 0 2/1 -1", "judge r take", "judge d take", "undo", "undo", "shape t", "show t", "within r r", "least r 5", "most r 13")
['ok', 'right', 'wrong take light second - 1 5 3', 'ok', 'ok', '2 (3 (4))', 'tree turn 3/1 0 2/1 -1 ; 2 none ; 3 none ; 4 none', 'within', '7', '6']
>>> desk.run("fill f fill 1/2 0 1 2", "shelf h f 2", "put h 1", "put h 3", "put h 2 7", "levels h", "fits f", "show h", "take h 2")
['ok', 'ok', 'ok', 'ok', 'ok', '2 1 / 2', 'fits 2', 'shelf 2 fill 1/2 0 1 2 ; row 2 1 ; row 2 ; 1 none ; 2 7 ; 3 none', '7']
>>> desk("shape u")
raises NoName('u')
>>> desk("put t 01")
raises BadCommand(2)
"""
START = ["rule r turn 3/1 0 2/1 -1", "rule s try 5/2 -1", "rule d turn 4/1 0 2/1 -1", "fill f fill 1/2 0 1 2",
         "fill g fill 2/3 0 1 3", "tree t r", "tree u s", "shelf h f 2", "shelf i g 6", "put t 1 5", "put t 2", "put t 3",
         "put t 4", "put u 7", "put u 8 -1", "put h 1", "put h 3", "put h 2 7", "put i 5"]
# One right line of each form, and others.
RIGHT = ["rule n turn 5/2 -1 7/5 -5", "rule n try 6/1 6", "fill n fill 11/12 -3 4 6", "tree n s", "shelf n f 4", "put t 9",
         "put t 9 -8", "put h 9", "put h 9 none", "put t 1 none", "take t 3", "take h 2", "exchange t s", "split t 3 n",
         "split t 3 t", "split t -5 u", "join t u", "drop t", "drop r", "drop h", "undo", "show t", "show h", "show r", "show f",
         "shape t", "height t", "unfair t", "levels h", "count t", "count h", "get t 1", "get h 2", "place t 3", "judge r both",
         "judge d take", "judge s put", "within r s", "within s r", "within r r", "least r 1000", "most r 0", f"most s {10 ** 30 - 1}",
         "fits f", "fits g", "tree t r", "rule t try 3/1 0", f"place t {1 - 10 ** 30}"]
WORDS = ["", "t", "h", "r", "f", "zz", "abcdefgh", "abcdefghi", "T", "a1", "0", "-1", "1001", str(10 ** 30), str(10 ** 30 - 1),
         "none", "put", "both", "take", "undo", "1/2", "x y", "1.0", "t\n", "fill", "try"]


def started():
    """A desk and its model with the same things."""
    desk, played = Desk(), Played()
    for line in START:
        assert desk.say(line) == played.say(line) == "ok"
    return desk, played


def state(desk):
    """All that can be asked of a desk without changing it."""
    return desk.names, len(desk), [desk.say(f"show {name}") for name in desk.names]


class DeskCase(unittest.TestCase):

    def check_line(self, desk, played, line):
        """That a line answers or raises as it does in the model, and leaves the same things."""
        try:
            wanted = played.say(line)
        except FairError as why:
            before = state(desk)
            assert_raises(self, why, desk.say, line)
            self.assertEqual(state(desk), before)
            return why.__class__
        answer = desk.say(line)
        self.assertEqual((answer, answer.__class__), (wanted, str), line)
        self.assertNotIn("\n", answer)
        self.check_state(desk, played)
        return None

    def check_state(self, desk, played):
        self.assertEqual((desk.names, len(desk)), (tuple(sorted(played.things)), len(played.past)))
        for name in played.things:
            self.assertEqual(desk.say(f"show {name}"), played.told(["show", name], None))


class LinesTest(DeskCase):

    def test_examples(self):
        run_examples(self, EXAMPLES)

    def test_right_lines(self):
        for line in RIGHT:
            self.assertIsNone(wrong_word(line), line)
            desk, played = started()
            self.assertIsNone(self.check_line(desk, played, line), line)
        self.assertEqual({line.split(" ")[0] for line in RIGHT}, {form.split(" ")[0] for form in TABLE})

    def test_right_lines_one_behind_the_other(self):
        desk, played = started()
        for line in RIGHT * 2 + ["undo"] * 60:
            self.check_line(desk, played, line)
        self.assertEqual((len(desk), desk.names, desk.say("undo")), (0, (), "nothing"))

    def test_near_lines(self):
        counts = {True: 0, False: 0}
        desk, _ = started()
        for line in RIGHT:
            for other in near_lines(line, WORDS):
                wrong = wrong_word(other)
                counts[wrong is None] += 1
                if wrong is not None:
                    assert_raises(self, BadCommand(wrong), desk.say, other)
                    assert_raises(self, BadCommand(wrong), desk, other)
        self.assertEqual(state(desk), state(started()[0]))
        self.assertGreater(min(counts.values()), 400)

    def test_near_lines_that_are_lines(self):
        random.seed(101)
        lines = [other for line in RIGHT for other in near_lines(line, WORDS) if wrong_word(other) is None]
        raised = set()
        for line in random.sample(sorted(set(lines)), 250):
            desk, played = started()
            raised.add(self.check_line(desk, played, line))
        self.assertLessEqual({None, NoName, NoKey}, raised)

    def test_rules_without_halves(self):
        desk = Desk()
        for line, word in (("rule n try 2/1 -1", 3), ("rule n turn 3/2 0 1/1 0", 3), ("rule n turn 3/2 0 1/1", 6),
                           ("rule n try 2/1 -1 0", 5), ("rule n", 2), ("rule", 1), ("rule n turn", 3), ("fill n", 2), ("fill n fill", 3),
                           ("rule n fill 1/2 0 1 2", 2), ("fill n try 3/1 0", 2), ("rule N try 3/1 0", 1)):
            self.assertEqual(wrong_word(line), word)
            assert_raises(self, BadCommand(word), desk.say, line)

    def test_any_values(self):
        desk = Desk()
        for value in any_values():
            if not isinstance(value, str) or wrong_word(value) == 0:
                assert_raises(self, BadCommand(0), desk.say, value)
                assert_raises(self, BadCommand(0), desk, value)
                assert_raises(self, BadCommand(0), desk.run, value)
        for line in ("", " ", "names", "Undo", "undo\n", " undo", "say undo", "len", "\u0441ount t"):
            assert_raises(self, BadCommand(0), desk.say, line=line)
        assert_raises(self, BadCommand(1), desk.say, "undo undo")
        assert_raises(self, BadCommand(1), desk.say, "undo ")

    def test_names_of_things_of_other_kinds(self):
        names = ["r", "f", "t", "h", "nothing"]
        kinds = {"R": "r", "S": "r", "F": "f", "T": "t", "U": "t", "H": "h", "X": "th", "NAME": "rfth"}
        other = {"KEY": "2", "VALUE": "3", "MOST": "4", "HEIGHT": "3", "KEYS": "3", "HOW": "both", "N": "new",
                 "RULE": "try 3/1 0", "FILL": "fill 1/2 0 1 2"}
        for form in TABLE:
            words = form.split(" ")
            places = [at for at, word in enumerate(words) if word in kinds and at > 0]
            for first in names:
                for second in names:
                    told = dict(zip(places, (first, second)))
                    line = " ".join([words[0], *[told.get(at) or other[word] for at, word in enumerate(words) if at > 0]])
                    wrong = [told[at] for at in places if told[at] not in kinds[words[at]]]
                    desk, played = started()
                    if wrong:
                        assert_raises(self, NoName(wrong[0]), desk.say, line)
                        self.assertEqual(state(desk), state(started()[0]))
                    else:
                        self.assertIsNot(self.check_line(desk, played, line), NoName)

    def test_errors_of_what_is_called(self):
        desk, _ = started()
        before = state(desk)
        errors = [("take t 77", NoKey(77)), ("take h 77", NoKey(77)), ("get t 77", NoKey(77)), ("get i 77", NoKey(77)),
                  ("join u t", Overlap(1)), ("join t t", Overlap(1)), ("least r 1001", BadNumber(1001)),
                  ("shelf n f 1", BadNumber(1)), ("shelf n f 0", BadNumber(0)), (f"shelf n f {10 ** 13}", BadNumber(10 ** 13)),
                  (f"least s {10 ** 30 - 1}", BadNumber(10 ** 30 - 1)), ("shelf t g 1", BadNumber(1))]
        for line, error in errors:
            assert_raises(self, error, desk.say, line)
            self.assertEqual(state(desk), before)

    def test_errors_in_their_order(self):
        desk, _ = started()
        for line, error in (("take x 01", BadCommand(2)), ("take X 77", BadCommand(1)), ("take x 77 1", BadCommand(3)),
                            ("join x y", NoName("x")), ("join t y", NoName("y")), ("join y t", NoName("y")),
                            ("shelf n t 1", NoName("t")), ("least t 1001", NoName("t")), ("within r t", NoName("t")),
                            ("within h t", NoName("h")), ("exchange r t", NoName("r")), ("exchange t f", NoName("f")),
                            ("judge d all", BadCommand(2)), ("judge x put", NoName("x")), ("levels t", NoName("t")),
                            ("place h 1", NoName("h")), ("fits r", NoName("r")), ("split h 1 n", NoName("h"))):
            assert_raises(self, error, desk.say, line)

    def test_nodes_that_are_not_fair(self):
        desk = Desk()
        desk.run("rule d turn 4/1 0 2/1 -1", "tree t d", *[f"put t {key}" for key in (2, 1, 7, 8, 9, 5, 3, 4, 6)])
        self.assertEqual(desk.run("unfair t", "shape t", "take t 1", "unfair t", "height t"),
                         ["-", "(1) 2 (((3 (4)) 5 (6)) 7 (8 (9)))", "none", "2", "5"])
        self.assertEqual(desk.run("rule r try 3/1 0", "exchange t r", "unfair t", "undo", "unfair t", "undo", "undo", "unfair t"),
                         ["ok", "ok", "-", "ok", "2", "ok", "ok", "-"])

    def test_stuck_and_too_many(self):
        desk = Desk()
        desk.run("rule r turn 3/1 0 1/2 -6", "tree t r", "put t 4", "put t 1", "put t 6")
        desk.run("put t 7")
        shape = desk.say("shape t")
        for key in range(2, 40):
            try:
                desk.say(f"put t {key}")
                desk.say("undo")
            except Stuck as why:
                self.assertEqual(why.key, key)
            self.assertEqual((desk.say("shape t"), len(desk)), (shape, 6))
        desk = Desk()
        desk.run("rule r try 3/1 0", "tree t r", "fill f fill 1/2 0 1 2", "shelf h f 50", *[f"put t {key}" for key in range(2000)],
                 *[f"put h {key}" for key in range(2000)])
        for line in ("put t 2000", "put h -1"):
            assert_raises(self, TooMany("keys", 2000), desk.say, line)
        self.assertEqual((desk("count t"), desk("count h"), desk("put t 7 8"), desk("get t 7"), len(desk)),
                         ("2000", "2000", "ok", "8", 4005))
        desk.run("tree u r", "put u 3000")
        assert_raises(self, TooMany("keys", 2000), desk.say, "join t u")
        self.assertEqual(desk.run("undo", "undo", "undo", "get t 7", "count t"), ["ok", "ok", "ok", "none", "2000"])


class PastTest(DeskCase):

    def test_random_lines(self):
        random.seed(102)
        names = ["a", "b", "c", "d", "e"]
        raised = {}
        for _ in range(12):
            desk, played = Desk(), Played()
            for name, line in zip(names, ("rule a try 3/1 0", "tree b a", "fill c fill 1/2 0 1 2", "shelf d c 3", "tree e a")):
                self.check_line(desk, played, line)
            for _ in range(250):
                form = random.choice(TABLE + ["put X KEY"] * 12 + ["undo"] * 4 + ["take X KEY"] * 6)
                line = " ".join([form.split(" ")[0], *[self.word(kind, names) for kind in form.split(" ")[1:]]])
                told = self.check_line(desk, played, line)
                raised[told] = raised.get(told, 0) + 1
            while played.past:
                self.check_line(desk, played, "undo")
            self.assertEqual((desk.say("undo"), len(desk), desk.names), ("nothing", 0, ()))
        self.assertGreater(raised[None], 800)
        self.assertGreater(raised[NoName], 100)
        self.assertGreater(raised[NoKey], 20)

    def word(self, kind, names):
        if kind in ("KEY", "VALUE"):
            return str(random.randint(-3, 12))
        if kind in ("MOST", "HEIGHT", "KEYS"):
            return str(random.randint(0, 9))
        if kind == "HOW":
            return random.choice(["put", "take", "both"])
        if kind == "RULE":
            return random.choice(["try 3/1 0", "turn 3/1 0 2/1 -1", "try 2/1 0", "turn 4/1 0 2/1 -1", "turn 3/1 0 1/2 -6"])
        if kind == "FILL":
            return random.choice(["fill 1/2 0 1 2", "fill 2/3 0 1 3", "fill 12/1 0 1 2"])
        return random.choice(names)

    def test_undo_until_there_is_nothing(self):
        desk, played = started()
        lines = ["drop r", "split t 2 h", "join t h", "exchange u d", "rule t try 3/1 0", "put u 4", "take u 4", "tree u t"]
        for line in lines:
            self.check_line(desk, played, line)
        self.assertEqual(len(desk), len(START) + len(lines))
        while len(desk) > 0:
            self.check_line(desk, played, "undo")
        self.assertEqual([desk.say("undo") for _ in range(3)], ["nothing"] * 3)
        self.assertEqual(desk.run(*START), ["ok"] * len(START))

    def test_lines_that_only_ask_are_not_taken_back(self):
        desk, _ = started()
        many = len(desk)
        for line in ("show t", "shape t", "height t", "unfair t", "levels h", "count t", "get t 1", "place t 2", "judge r both",
                     "within r s", "least r 3", "most r 3", "fits f"):
            desk.say(line)
            self.assertEqual(len(desk), many)
        # A line that changes nothing that can be seen is one that can be taken back, too.
        for line in ("put t 1 5", "exchange t r", "rule r turn 3/1 0 2/1 -1", "drop r"):
            many += 1
            desk.say(line)
            self.assertEqual(len(desk), many)

    def test_what_a_name_had_is_replaced(self):
        desk, _ = started()
        self.assertEqual(desk.run("rule r try 2/1 0", "show t", "tree h r", "show h", "split t 3 t", "show t", "undo", "show t",
                                  "drop r", "exchange t s", "show t"),
                         ["ok", "tree turn 3/1 0 2/1 -1 ; 2 none ; 1 5 ; 3 none ; 4 none", "ok", "tree try 2/1 0", "ok",
                          "tree turn 3/1 0 2/1 -1 ; 4 none ; 3 none", "ok",
                          "tree turn 3/1 0 2/1 -1 ; 2 none ; 1 5 ; 3 none ; 4 none", "ok", "ok",
                          "tree try 5/2 -1 ; 2 none ; 1 5 ; 3 none ; 4 none"])

    def test_a_joined_tree_stays(self):
        desk, _ = started()
        self.assertEqual(desk.run("join t u", "show t", "show u", "put u 99", "count t", "undo", "undo", "show t"),
                         ["ok", "tree turn 3/1 0 2/1 -1 ; 4 none ; 2 none ; 1 5 ; 3 none ; 8 -1 ; 7 none",
                          "tree try 5/2 -1 ; 7 none ; 8 -1", "ok", "6", "ok", "ok",
                          "tree turn 3/1 0 2/1 -1 ; 2 none ; 1 5 ; 3 none ; 4 none"])


class RunTest(DeskCase):

    def test_run_with_a_line_that_is_refused(self):
        for line, error in (("take u 99", NoKey(99)), ("put t 01", BadCommand(2)), ("drop x", NoName("x")), (None, BadCommand(0)),
                            ("least r 1001", BadNumber(1001))):
            desk, _ = started()
            before = state(desk)
            assert_raises(self, error, desk.run, "put t 50", "drop h", "undo", "undo", "undo", "rule t try 3/1 0", line, "drop r")
            self.assertEqual(state(desk), before)
            self.assertEqual((desk.say("undo"), len(desk)), ("ok", len(START) - 1))
            self.assertEqual(desk.say("levels i"), "-")

    def test_run_without_lines(self):
        desk, _ = started()
        before = state(desk)
        self.assertEqual(desk.run(), [])
        self.assertEqual(state(desk), before)
        answers = desk.run("count t", "undo", "count i")
        self.assertEqual(answers, ["4", "ok", "0"])
        answers.append("mine")
        self.assertEqual(desk.run("undo"), ["ok"])

    def test_run_is_as_say(self):
        one, lines, answers = Desk(), [], []
        for line in START + RIGHT:
            try:
                answers.append(one.say(line))
                lines.append(line)
            except FairError:
                pass
        other = Desk()
        self.assertEqual(other.run(*lines), answers)
        self.assertEqual(state(one), state(other))
        self.assertGreater(len(lines), len(START) + 25)

    def test_the_call(self):
        desk = Desk()
        self.assertEqual((desk("rule r try 3/1 0"), desk(line="tree t r"), desk.names, len(desk)), ("ok", "ok", ("r", "t"), 2))
        assert_raises(self, NoName("x"), desk, "show x")
        self.assertEqual((Desk().names, len(Desk()), Desk()("undo")), ((), 0, "nothing"))

    def test_desks_of_their_own(self):
        one, other = Desk(), Desk()
        one.run("rule r try 3/1 0", "tree t r", "put t 1")
        self.assertEqual((other.names, len(other)), ((), 0))
        assert_raises(self, NoName("t"), other.say, "count t")
        self.assertIs(one == one, True)
        self.assertIs(one == other, False)


if __name__ == "__main__":
    unittest.main()
