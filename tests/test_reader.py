"""What is read: the grammar [21] and the trees [22]."""

import unittest

from innerasks.errors import NoQuestion
from innerasks.reader import read_question

PERCENT = chr(37)
X = ("column", None, "x")
Y = ("column", None, "y")
Z = ("column", None, "z")
T = ("table", "t", "t")
U = ("table", "u", "u")
V = ("table", "v", "v")
PLAIN = ("select", False, ((X, "x"),), T, None, None, None)
ASKED = "(select x from t)"


def value(thing):
    return ("value", thing)


def where(text):
    """The condition or expression that a text is."""
    question = read_question(f"select x from t where {text}")
    assert question[:4] == PLAIN[:4] and question[5:] == PLAIN[5:]
    return question[4]


def source(text):
    return read_question(f"select x from {text}")[3]


class Questions(unittest.TestCase):
    def check(self, tree, *texts):
        for text in texts:
            self.assertEqual(tree, read_question(text), text)

    def test_the_least_one(self):
        self.check(PLAIN, "select x from t", " select\nx  from\n\nt ", "select x from t as t", "select x as x from t",
                   "(select x from t)", "((select x from t))", "select (x) from t", "select((x))from(t)")

    def test_all_parts_of_a_select(self):
        self.check(
            ("select", True, ((X, "x"), (value(1), "n")), ("join", "cross", T, U, None), ("null", X), (X, Y), ("null", Y)),
            "select distinct x, 1 as n from t, u where x is null group by x, y having y is null",
        )
        self.check(("select", False, None, T, None, None, None), "select * from t")
        self.check(("select", True, None, T, None, None, None), "select distinct * from t")
        self.check(("select", False, ((X, "x"),), T, None, (), None), "select x from t group by ()",
                   "select x from t group by( )")
        self.check(("select", False, ((X, "x"),), T, None, (("column", "t", "y"),), None),
                   "select x from t group by t.y", "select x from t group by t . y")
        self.check(("select", False, ((X, "x"),), T, None, None, ("null", X)), "select x from t having x is null")

    def test_items(self):
        self.check(("select", False, ((("column", "t", "x"), "x"), (Y, "z"), (X, "x")), T, None, None, None),
                   "select t.x, y as z, x from t", "select ((t.x)), (y) as z, (x) as x from t")
        self.check(("select", False, ((("+", X, value(1)), "a"), (value(None), "b"), (("param", "p"), "c")), T, None, None,
                    None), "select x + 1 as a, null as b, :p as c from t")
        self.check(("select", False, ((("or", (X, Y)), "a"),), T, None, None, None), "select x or y as a from t")

    def test_items_without_as(self):
        for text in ("1", "x + y", "'a'", "null", ":p", "- x", "count(*)", "sum(x)", "coalesce(x)", "x = y",
                     f"one {ASKED}", "case when x then y end", "not x", "(x + 1)", "x is null"):
            for behind in (" from t", ", y from t"):
                with self.assertRaises(NoQuestion) as caught:
                    read_question(f"select {text}{behind}")
                place = len(f"select {text}") + (behind[0] == " ")
                self.assertEqual(place, caught.exception.place, text)

    def test_bodies(self):
        a, b, c = PLAIN, ("select", False, ((Y, "y"),), U, None, None, None), ("select", False, None, V, None, None, None)
        one, two, three = "select x from t", "select y from u", "select * from v"
        for word in ("union", "except", "intersect"):
            self.check((word, False, a, b), f"{one} {word} {two}", f"({one}) {word} ({two})", f"({one} {word} {two})")
            self.check((word, True, a, b), f"{one} {word} all {two}")
            self.check((word, False, (word, False, a, b), c), f"{one} {word} {two} {word} {three}")
            self.check((word, False, a, (word, False, b, c)), f"{one} {word} ({two} {word} {three})")
        self.check(("except", True, ("union", False, a, b), c), f"{one} union {two} except all {three}")
        self.check(("union", True, ("except", False, a, b), c), f"{one} except {two} union all {three}")
        for word in ("union", "except"):
            self.check((word, False, a, ("intersect", False, b, c)), f"{one} {word} {two} intersect {three}")
            self.check((word, False, ("intersect", False, a, b), c), f"{one} intersect {two} {word} {three}")
            self.check(("intersect", False, (word, False, a, b), c), f"({one} {word} {two}) intersect {three}")
            self.check(("intersect", False, a, (word, False, b, c)), f"{one} intersect ({two} {word} {three})")

    def test_order(self):
        self.check(("first", PLAIN, (("x", False),), None), "select x from t order by x")
        self.check(("first", PLAIN, (("x", True),), None), "select x from t order by x desc")
        self.check(("first", PLAIN, (("x", True), ("y", False), ("a", True)), 0),
                   "select x from t order by x desc, y, a desc first 0")
        self.check(("first", PLAIN, (("x", False),), 10 ** 39), f"select x from t order by x first {10 ** 39}")
        self.check(("first", ("union", False, PLAIN, PLAIN), (("x", False),), 1),
                   "select x from t union select x from t order by x first 1")
        self.check(("union", False, PLAIN, ("first", PLAIN, (("x", False),), 1)),
                   "select x from t union (select x from t order by x first 1)")
        self.check(("first", ("first", PLAIN, (("x", False),), 1), (("y", True),), None),
                   "(select x from t order by x first 1) order by y desc")


class Sources(unittest.TestCase):
    def check(self, tree, *texts):
        for text in texts:
            self.assertEqual(tree, source(text), text)

    def test_single(self):
        self.check(T, "t", "(t)", "((t))", "t as t")
        self.check(("table", "t", "a"), "t as a", "(t as a)")
        self.check(("question", PLAIN, "a"), "(select x from t) as a", "((select x from t)) as a",
                   "((select x from t) as a)", "(((select x from t)) as a)")

    def test_commas(self):
        self.check(("join", "cross", T, U, None), "t, u", "t cross join u", "(t cross join u)", "(t), (u)")
        self.check(("join", "cross", ("join", "cross", T, U, None), V, None), "t, u, v", "t cross join u cross join v",
                   "(t cross join u), v")
        self.check(("join", "cross", T, ("join", "cross", U, V, None), None), "t, u cross join v", "t, (u cross join v)")

    def test_joins(self):
        for words, kind in (("join", "inner"), ("inner join", "inner"), ("left join", "left"), ("full join", "full")):
            self.check(("join", kind, T, U, X), f"t {words} u on x", f"(t {words} u on x)", f"((t) {words} (u) on (x))")
            self.check(("join", kind, ("join", "left", T, U, X), V, Y), f"t left join u on x {words} v on y",
                       f"(t left join u on x) {words} v on y")
            self.check(("join", kind, T, ("join", "left", U, V, X), Y), f"t {words} (u left join v on x) on y")
            self.check(("join", "cross", T, ("join", kind, U, V, X), None), f"t, u {words} v on x")
            self.check(("join", "cross", ("join", kind, T, U, X), V, None), f"t {words} u on x, v",
                       f"t {words} u on x cross join v")
        self.check(("join", "inner", T, ("question", PLAIN, "a"), ("or", (X, Y))), f"t join {ASKED} as a on x or y")

    def test_questions_and_sources_in_parentheses(self):
        aliased = ("question", PLAIN, "a")
        self.check(("join", "inner", aliased, T, X), f"({ASKED} as a join t on x)", f"(({ASKED} as a) join t on x)",
                   f"(({ASKED}) as a join t on x)")
        self.check(("question", ("union", False, PLAIN, PLAIN), "a"), f"({ASKED} union {ASKED}) as a",
                   f"(({ASKED} union {ASKED})) as a", f"((({ASKED}) union select x from t) as a)")
        self.check(("question", ("first", PLAIN, (("x", False),), None), "a"), f"({ASKED} order by x) as a")
        self.check(("question", ("intersect", True, PLAIN, PLAIN), "a"), f"((({ASKED}) intersect all {ASKED})) as a")
        self.check(("join", "cross", T, aliased, None), f"t cross join ({ASKED}) as a", f"t, (({ASKED} as a))")
        self.check(("join", "left", ("join", "full", T, U, X), V, Y), "((t full join u on x) left join v on y)")


class Conditions(unittest.TestCase):
    def check(self, tree, *texts):
        for text in texts:
            self.assertEqual(tree, where(text), text)

    def test_chains(self):
        self.check(("and", (X, Y)), "x and y")
        self.check(("and", (X, Y, Z)), "x and y and z")
        self.check(("and", (("and", (X, Y)), Z)), "(x and y) and z")
        self.check(("and", (X, ("and", (Y, Z)))), "x and (y and z)")
        self.check(("or", (X, Y, Z)), "x or y or z")
        self.check(("or", (("or", (X, Y)), Z)), "(x or y) or z")
        self.check(("or", (X, ("or", (Y, Z)))), "x or (y or z)")

    def test_how_strongly_they_bind(self):
        self.check(("or", (X, ("and", (Y, Z)))), "x or y and z", "x or (y and z)")
        self.check(("or", (("and", (X, Y)), Z)), "x and y or z")
        self.check(("and", (("or", (X, Y)), Z)), "(x or y) and z")
        self.check(("or", (("and", (X, Y)), ("and", (Y, Z)), X)), "x and y or y and z or x")
        self.check(("and", (("not", X), Y)), "not x and y", "(not x) and y")
        self.check(("not", ("and", (X, Y))), "not (x and y)")
        self.check(("or", (("not", ("not", X)), Y)), "not not x or y")
        self.check(("not", ("=", X, Y)), "not x = y", "not (x = y)")
        self.check(("=", ("not", X), Y), "(not x) = y")
        self.check(("not", ("not", ("in", X, PLAIN))), f"not x not in {ASKED}")

    def test_comparisons(self):
        for sign in ("=", "<>", "<", "<=", ">", ">="):
            self.check((sign, X, Y), f"x {sign} y", f"x{sign}y", f"(x){sign}(y)")
            self.check(("any", sign, X, PLAIN), f"x {sign} any {ASKED}", f"x{sign}any{ASKED}")
            self.check(("all", sign, X, PLAIN), f"x {sign} all {ASKED}", f"x {sign} all ({ASKED})")
            self.check((sign, ("+", X, Y), ("-", Y, Z)), f"x + y {sign} y - z")
            self.check((sign, X, (sign, Y, Z)), f"x {sign} (y {sign} z)")

    def test_in(self):
        self.check(("in", X, PLAIN), f"x in {ASKED}", f"x in ({ASKED})")
        self.check(("not", ("in", X, PLAIN)), f"x not in {ASKED}", f"not x in {ASKED}", f"not (x in {ASKED})")
        self.check(("in", ("+", X, Y), PLAIN), f"x + y in {ASKED}")

    def test_is(self):
        self.check(("null", X), "x is null")
        self.check(("not", ("null", X)), "x is not null", "not x is null", "not (x is null)")
        self.check(("is", X, Y), "x is y", "x is (y)")
        self.check(("not", ("is", X, Y)), "x is not y", "not x is y")
        self.check(("is", X, value(None)), "x is (null)")
        self.check(("not", ("is", X, value(None))), "x is not (null)")
        self.check(("is", X, ("+", value(None), value(1))), "x is (null + 1)", "x is (null) + 1")
        self.check(("is", X, ("+", value(1), value(None))), "x is 1 + null")
        self.check(("null", value(None)), "null is null")
        self.check(("and", (("null", X), Y)), "x is null and y")
        self.check(("null", ("+", X, Y)), "x + y is null")
        self.check(("is", X, ("not", Y)), "x is (not y)")
        self.check(("is", X, ("-", value(0), Y)), "x is - y")

    def test_null_ends_the_test(self):
        for text in ("x is null + 1", "x is not null * 2", "x is null = 1", "x is null is null"):
            with self.assertRaises(NoQuestion) as caught:
                where(text)
            self.assertEqual(len("select x from t where ") + text.index("null") + 5, caught.exception.place)

    def test_exists(self):
        self.check(("exists", PLAIN), f"exists {ASKED}", f"exists({ASKED})")
        self.check(("not", ("exists", PLAIN)), f"not exists {ASKED}")
        self.check(("=", ("exists", PLAIN), X), f"(exists {ASKED}) = x")

    def test_tests_are_no_chains(self):
        for text, sign in (("x = y = z", "="), ("x is y is z", "is"), (f"x in {ASKED} in {ASKED}", "in"),
                           (f"exists {ASKED} = x", "="), (f"x = any {ASKED} + 1", "+")):
            with self.assertRaises(NoQuestion) as caught:
                where(text)
            self.assertEqual(len("select x from t where ") + text.rindex(sign), caught.exception.place)


class Expressions(unittest.TestCase):
    def check(self, tree, *texts):
        for text in texts:
            self.assertEqual(tree, where(text), text)

    def test_sums(self):
        self.check(("-", ("+", X, Y), Z), "x + y - z", "(x + y) - z")
        self.check(("+", ("-", X, Y), Z), "x - y + z")
        self.check(("+", X, ("-", Y, Z)), "x + (y - z)")
        self.check(("+", X, ("*", Y, Z)), "x + y * z", "x+y*z")
        self.check(("*", ("+", X, Y), Z), "(x + y) * z")
        self.check(("*", ("*", X, Y), Z), "x * y * z")
        self.check(("*", X, ("*", Y, Z)), "x * (y * z)")

    def test_minus(self):
        self.check(value(-3), "- 3", "-3", "-\n3", "(-3)")
        self.check(value(0), "- 0", "0")
        self.check(("-", value(0), X), "- x", "-x", "0 - x", "-(x)")
        self.check(("-", value(0), value(3)), "-(3)", "0 - 3")
        self.check(("-", value(0), value(-3)), "- - 3", "--3", "-(-3)")
        self.check(("-", value(0), ("-", value(0), X)), "- - x")
        self.check(("-", X, value(3)), "x - 3", "x -3", "x-3")
        self.check(("-", X, value(-3)), "x - - 3", "x - -3")
        self.check(("*", value(-3), X), "-3 * x")
        self.check(("*", ("-", value(0), X), Y), "-x * y")
        self.check(("*", X, ("-", value(0), Y)), "x * -y")
        self.check(("*", X, value(-1)), "x * -1")
        self.check(("-", value(0), value("a")), "- 'a'")
        self.check(("-", value(0), value(None)), "- null")

    def test_values(self):
        self.check(value(0), "0")
        self.check(value(10 ** 40 - 1), "9" * 40)
        self.check(value(1 - 10 ** 40), "-" + "9" * 40)
        self.check(value(None), "null", "(null)")
        self.check(value(""), "''")
        self.check(value("a"), "'a'")
        self.check(value("it's"), "'it''s'")
        self.check(value("'"), "''''")
        self.check(value("''"), "''''''")
        self.check(value("x" * 40), f"'{'x' * 40}'")
        self.check(value("'" * 40), "'" + "''" * 40 + "'")
        self.check(value(" ~!(,)select"), "' ~!(,)select'")

    def test_strings_are_no_keywords_and_no_signs(self):
        for word in "not exists - null one case coalesce count sum ( ) and or end as in is = + * .".split():
            self.check(value(word), f"'{word}'", f"('{word}')")
            self.check(("+", X, ("*", value(word), Y)), f"x + '{word}' * y")
        self.check(("coalesce", (value("("),) * 40), "coalesce(" + ", ".join(["'('"] * 40) + ")")

    def test_parameters(self):
        self.check(("param", "p"), ":p", "(:p)")
        self.check(("=", ("param", "abcdefghijkl"), X), ":abcdefghijkl=x")

    def test_columns(self):
        self.check(("column", "t", "x"), "t.x", "t . x", "t\n.x", "(t.x)")
        self.check(("column", None, "abcdefghijkl"), "abcdefghijkl")

    def test_one(self):
        self.check(("one", PLAIN), f"one {ASKED}", f"(one({ASKED}))")
        self.check(("+", ("one", PLAIN), value(1)), f"one {ASKED} + 1")

    def test_case(self):
        self.check(("case", ((X, Y),), value(None)), "case when x then y end", "case when x then y else null end")
        self.check(("case", ((X, Y), (Y, Z)), value(1)), "case when x then y when y then z else 1 end")
        self.check(("case", ((("or", (X, Y)), ("and", (Y, Z))),), ("not", X)),
                   "case when x or y then y and z else not x end")
        self.check(("*", ("case", ((X, Y),), value(None)), value(2)), "case when x then y end * 2")
        inner = ("case", ((X, Y),), value(None))
        self.check(("case", ((inner, inner),), inner),
                   "case when case when x then y end then case when x then y end else case when x then y end end")

    def test_coalesce(self):
        self.check(("coalesce", (X,)), "coalesce(x)")
        self.check(("coalesce", (X, ("+", Y, Z), value(0))), "coalesce ( x , y + z, 0 )")

    def test_aggregates(self):
        self.check(("count", None, False), "count(*)", "count ( * )")
        self.check(("count", X, False), "count(x)", "count((x))")
        self.check(("count", X, True), "count(distinct x)")
        self.check(("count", ("*", X, Y), False), "count(x * y)")
        for word in ("sum", "least", "most"):
            self.check((word, X), f"{word}(x)", f"{word} ((x))")
            self.check((word, ("or", (X, Y))), f"{word}(x or y)")

    def test_words_without_spaces(self):
        self.check(("and", (("<=", X, value(1)), ("<>", Y, value("a")))), "x<=1 and y<>'a'")
        self.check(("and", (("=", X, value("a")), ("=", Y, value("b")))), "x='a'and y='b'")


class AnyObject(unittest.TestCase):
    def test_equal_calls_return_equal_results(self):
        text = "select x, count(*) as n from t group by x order by n desc first 3"
        self.assertEqual(read_question(text), read_question(text))

    def test_lists_are_tuples(self):
        waiting = [read_question("select x from t, u where x in (select * from v) and y or z group by x order by x")]
        while waiting:
            part = waiting.pop()
            self.assertNotIsInstance(part, list)
            waiting.extend(part if isinstance(part, tuple) else ())


if __name__ == "__main__":
    unittest.main()
