"""What several tests need: examples of the document, values of all kinds, and a check of papers of its own."""

from itertools import product

from evenrules import errors
from evenrules.cases import Case
from evenrules.desk import Desk
from evenrules.fills import FillRule, Fits, Spill, Spills
from evenrules.judged import From, Right, Wrong
from evenrules.met import Met, Never
from evenrules.rows import Row
from evenrules.rules import TryRule, TurnRule
from evenrules.settled import Odd, Point, Split, Sum, Top
from evenrules.shelves import Shelf
from evenrules.straight import Test as StraightTest
from evenrules.trees import Tree
from evenrules.within import Parted, Within


def deep_tuple(depth):
    """A tuple in a tuple in a tuple .."""
    value = ()
    for _ in range(depth):
        value = (value, 1, ())
    return value


def any_values():
    """Values of all kinds that the document calls any value."""
    return [
        None, True, False, 0, 1, -1, 7, 10 ** 30, -10 ** 69, "", "1", "a", "two words\nand a line", "x" * 3000,
        (), (1,), (True,), (1, 2), (1, 2, 3, 4, 5, 6), (None, "a"), deep_tuple(8), [], [1], [True], [1, 2], ["1"],
        [[[[[[[[1]]]]]]]], list(range(3000)), {}, {1: 2}, {"a": [1, {"b": (2, 3)}]}, deep_tuple(2000),
        StraightTest((1,), 0), StraightTest((3, -2), 1), Point((1,)), Sum((1, 1)), Split(0, (1, 1), ()),
        Odd((1, 0), 2), Top(1, 2, (3,)), TurnRule((3, 1), turn=(2, 1)), TryRule((2, 1)), Within(None), Parted(1, 3),
        Sum([{"a": 1}]), Split(None, "x", [1]), Odd(None, None), Case("put", ("light", "first"), None),
        Case(None, None, None), From(1, Sum((1,))), Right(()), Wrong("put", None, ("inner", "none"), (1, 1, 1)),
        FillRule((1, 2)), FillRule((11, 12), -3, cut_of=4, join_of=6), Fits(2, ()), Fits(None, [1]), Spills(6, 3),
        Spill(6, (6, 6, 6, 6), "put", (4, 3, 6, 6, 6)), Spill(None, None, None, None), Met(1, 1, 3), Met(None, [2], "c"),
        Never(Sum((1, 1))), Never(None),
        Row(FillRule((1, 2)), 4), Row(FillRule((1, 2)), 4, (3, 3, 4)), Shelf(FillRule((1, 2)), 4),
        Shelf(FillRule((1, 2)), 4, [(1, None), (2, [3])]), Desk(),
        Tree(TryRule((3, 1))), Tree(TurnRule((3, 1), turn=(2, 1)), [(1, None), (2, [3])]),
    ]


def run_examples(case, text):
    """Runs lines of the document behind `>>> `, each with the line that it gives, if any."""
    space = {name: getattr(errors, name) for name in dir(errors)}
    lines = text.strip().split("\n")
    at = 0
    while at < len(lines):
        source = lines[at][4:]
        case.assertEqual(lines[at][:4], ">>> ")
        told = None
        if at + 1 < len(lines) and not lines[at + 1].startswith(">>> "):
            told = lines[at + 1]
        at += 1 if told is None else 2
        run_example(case, space, source, told)


def run_example(case, space, source, told):
    """Runs one line: a statement, an expression with its value, or one that raises an error."""
    if told is None:
        exec(source, space)
    elif told.startswith("raises "):
        wanted = eval(told[len("raises "):], space)
        with case.assertRaises(wanted.__class__) as caught:
            eval(source, space)
        case.assertIs(caught.exception.__class__, wanted.__class__)
        case.assertEqual(vars(caught.exception), vars(wanted))
    else:
        case.assertEqual(repr(eval(source, space)), told, source)


def assert_raises(case, error, action, *arguments, **named):
    """Checks that a call raises an error of just this class with just these attributes."""
    with case.assertRaises(errors.FairError) as caught:
        action(*arguments, **named)
    case.assertIs(caught.exception.__class__, error.__class__)
    case.assertEqual(kinds(list(vars(caught.exception).items())), kinds(list(vars(error).items())))


def kinds(value, depth=10):
    """The value with its kind, and the kinds of its parts, so that True is not 1."""
    if isinstance(value, (list, tuple)) and len(value) < 20 and depth > 0:
        return (value.__class__, [kinds(part, depth - 1) for part in value])
    return (value.__class__, value if isinstance(value, (int, str)) else None)


def holds(row, numbers):
    """Whether numbers keep a pair of parts and bound."""
    return sum(part * number for part, number in zip(row[0], numbers)) >= row[1]


def pairs(tests):
    """The pairs of parts and bound of tests."""
    return [(tuple(test.parts), test.bound) for test in tests]


def whole_numbers(tests, reach):
    """The first whole numbers between -reach and reach that keep all tests, or None."""
    rows = pairs(tests)
    for numbers in product(range(-reach, reach + 1), repeat=len(rows[0][0])):
        if all(holds(row, numbers) for row in rows):
            return numbers
    return None


def is_whole(value):
    return isinstance(value, int) and not isinstance(value, bool)


def is_right_paper(rows, paper, depth=0):
    """Whether a paper is one of point [8], by its words alone; rows are pairs of parts and bound."""
    if depth > 20 or paper.__class__ not in (Sum, Split, Odd):
        return False
    weights = paper.weights
    if not isinstance(weights, tuple) or len(weights) != len(rows) or not all(map(is_whole, weights)):
        return False
    unknowns = range(len(rows[0][0]))
    parts = [sum(weight * row[0][at] for weight, row in zip(weights, rows)) for at in unknowns]
    bounds = sum(weight * row[1] for weight, row in zip(weights, rows))
    if isinstance(paper, Odd):
        return is_right_odd(rows, paper, parts, bounds)
    if any(weight < 0 for weight in weights) or any(part != 0 for part in parts):
        return False
    if isinstance(paper, Sum):
        return bounds >= 1
    return is_right_split(rows, paper, bounds, depth)


def is_right_odd(rows, paper, parts, bounds):
    divisor = paper.divisor
    if not is_whole(divisor) or divisor < 2:
        return False
    for weight, (own, bound) in zip(paper.weights, rows):
        if weight != 0 and (tuple(-part for part in own), -bound) not in rows:
            return False
    return all(part % divisor == 0 for part in parts) and bounds % divisor != 0


def is_right_split(rows, paper, bounds, depth):
    at, papers = paper.at, paper.papers
    if not is_whole(at) or not 0 <= at < len(rows) or not isinstance(papers, tuple) or paper.weights[at] < 1:
        return False
    parts, bound = rows[at]
    amounts = range(bound, bound + (-bounds) // paper.weights[at] + 1)
    if len(papers) != len(amounts):
        return False
    negated = tuple(-part for part in parts)
    return all(is_right_paper([*rows, (parts, amount), (negated, -amount)], inner, depth + 1)
               for amount, inner in zip(amounts, papers))


def how_many(paper):
    """How many papers a paper has, itself counted."""
    if isinstance(paper, Split):
        return 1 + sum(how_many(inner) for inner in paper.papers)
    return 1


def fractions_keep(rows):
    """Whether some fractions keep all rows: unknown after unknown is taken out, each time from each two rows."""
    rows = set(rows)
    for at in range(len(next(iter(rows))[0])):
        lower = [row for row in rows if row[0][at] > 0]
        upper = [row for row in rows if row[0][at] < 0]
        rows = {row for row in rows if row[0][at] == 0}
        for one, other in product(lower, upper):
            mine, its = -other[0][at], one[0][at]
            parts = tuple(mine * a + its * b for a, b in zip(one[0], other[0]))
            rows.add((parts, mine * one[1] + its * other[1]))
        if not rows:
            return True
    return all(bound <= 0 for _, bound in rows)
