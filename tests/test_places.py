"""The place that NoQuestion tells [20, 23]."""

import unittest

from innerasks.errors import NoQuestion
from innerasks.reader import read_question
from samples import NO_TEXTS

PERCENT = chr(37)


class Marked(unittest.TestCase):
    def check(self, place, text):
        with self.assertRaises(NoQuestion) as caught:
            read_question(text)
        self.assertEqual(place, caught.exception.place, text)

    def marked(self, *texts):
        """A `#` stands where the place is; it does not belong to the text."""
        for text in texts:
            self.check(text.index("#"), text.replace("#", ""))

    def good(self, *texts):
        for text in texts:
            self.assertIsInstance(read_question(text), tuple)


class Places(Marked):
    def test_no_text(self):
        for thing in NO_TEXTS + [b"select x from t"]:
            self.check(0, thing)

    def test_empty(self):
        self.check(0, "")
        self.check(3, " \n ")
        self.check(1, "\n")

    def test_too_early(self):
        self.marked(
            "select#", "select #", "select \n#", "select x#", "select x as#", "select x from#", "select x from (#",
            "select x from t where#", "select x from t where x =#", "select x from t where x not#",
            "select x from t where x is#", "select x from t where x is not#", "select x from t where exists#",
            "select x from t where x in (select x from t#", "select x from t group#", "select x from t group by#",
            "select x from t group by (#", "select x from t having#", "select x from t order#",
            "select x from t order by#", "select x from t order by x,#", "select x from t order by x first#",
            "select x from t union#", "select x from t union all#", "(select x from t#", "((select x from t)#",
            "select x from t join u#", "select x from t join u on#", "select x from t left#", "select x from t cross#",
            "select x from t inner#", "select x from (select x from t)#", "select x from (select x from t) as#",
            "select case#", "select case when x then#", "select case when x then y#", "select count#",
            "select count(distinct#", "select count(*#", "select coalesce(x,#", "select t.#", "select -#", "select x +#",
            "select distinct#", "select x,#", "select x from t,#", "select x = any#", "select 1#", "select 1 as#",
        )

    def test_the_first_word_that_does_not_fit(self):
        self.marked(
            "#x", "#from t", "#1", "#*", "#) select x from t", "select #from t", "select #select", "select x #y from t",
            "select x, #from t", "select x from #where", "select x from t #u", "select x from t as #where",
            "select x from t where #group", "select x from t where x #y", "select x from t where x = #= y",
            "select x from t where x not #x", "select x from t where x in #x", "select x from t where x in (#x)",
            "select x from t where x in (#t)", "select x from t where exists #x", "select x from t where exists (#x)",
            "select x from t group #x", "select x from t group by #1", "select x from t group by (#x)",
            "select x from t group by x, #(", "select x from t group by () #, x",
            "select x from t order #x",
            "select x from t order by #1", "select x from t order by x #.x", "select x from t order by x first #x",
            "select x from t order by x first #-1", "select x from t order by x desc first 1 #first 1",
            "select x from t #first 1", "select x from t order by x #union select x from t",
            "select x from t union #order", "select x from t union #x", "select x from t union all #all",
            "select x from t #)", "(select x from t) #x", "(select x from t) #as a", "(select x from t)#)",
            "(#x)", "(#t join u on x)", "select x from t #on x", "select x from t cross join u #on x",
            "select x from t join u #join v on x", "select x from t join u #, v", "select x from t inner #left join u",
            "select x from t left #x", "select x from (t#, u)", "select x from (t) #as a", "select x from (#)",
            "select x from (t as a#,", "select x from (t #union", "select x from (#1", "select x from ((t) #as a)",
            "select x from (select x from t) #where x", "select x from (select x from t) #union select x from t",
            "select x from (select x from t) #, t", "select x from ((select x from t) #join u on x)",
            "select x from ((select x from t) #x", "select x from ((select x from t)) #)",
            "select x from ((select x from t) as a #union select x from t)",
            "select x from ((select x from t) as a #order by x)", "select x from (t join u on x #union",
            "select x from ((select x from t union select x from u) as a #union",
            "select x from ((select x from t) union select x from u) #join",
            "select case #x", "select case when x #end", "select case when x then y else z #when", "select case #end",
            "select count #x", "select count(#)", "select count(* #, x)", "select count(x#, y)", "select sum(#*)",
            "select sum(#distinct x)", "select coalesce(#)", "select coalesce(x #x)", "select coalesce(x, #)",
            "select t.#*", "select t.x#.y", "select *#, x from t", "select * #as x from t", "select - #from",
            "select x * #* y", "select (#)", "select (x #as y) from t", "select x = any #x", "select one #x", "select one (#x)", "select #any",
            "select distinct #distinct x", "select x = all (#x", "select x is #is y",
            "select x is not #not y", "select x not #= y", "select x = #not y", "select x + #not y", "select - #not y",
            "select x from t where x = 1 #where x", "select x from t having x #group by x", "select exists (select x "
            "from t) #+ 1", "select x = y #= z", "select not #and", "select x as #as", "select x as y #as z",
        )

    def test_items_that_need_as(self):
        self.marked("select 1 #from t", "select x + 1#, y from t", "select (1) #from t", "select 1 #x from t",
                    "select - x #from t", "select x = 1 #from t")
        self.good("select ((x)) from t", "select 1 as x from t")

    def test_wrong_words(self):
        for wrong in ("01", "00", "1x", "12ab", "a1", "x1y", "1" * 41, "0" * 2, "abcdefghijklm", "self", "#", "_", "A",
                      "'", "'a", "'a\n'", "''' ", "'" + "a" * 41 + "'", f"'{PERCENT}'", "'é'", "é", ":", ": p", ":1",
                      ":P", ":select", ":self", ":p1", ":abcdefghijklm", ";", "!", "!=", "\t", "\r", PERCENT, "/", "[",
                      "{", "\"x\"", "`x`", "\u00a0", "\x00", "?", "@", "&", "|", "~", "^", "\\"):
            self.check(7, f"select {wrong}")
            self.check(7, f"select {wrong} from t")
            self.check(22, f"select x from t where {wrong} and x = 1")
            self.check(9, f"select x {wrong}")

    def test_a_wrong_word_does_not_come_first(self):
        self.marked("select x #x A", "select x from #where 'a", "#from 01", "select x from t #u '")
        self.marked("select x#A from t", "select x from t where x = 'a' #'b", "select x#_ from t")

    def test_integers(self):
        self.good(f"select {'9' * 40} as x from t", "select 0 as x from t", "select 10 as x from t")
        self.marked(f"select #{'9' * 41} as x from t", "select #01 as x from t", "select #00 as x from t",
                    f"select x from t order by x first #{'1' * 41}", "select x from t order by x first #01",
                    "select -#01 as x from t", "select 1#.5 as x from t")

    def test_letters_right_behind_digits(self):
        self.marked("select x from t where x = #1and y", "select x from t where #1x = 1", "select #0x as x from t",
                    "select x from t where x = #1or", "select x from t order by x first #3a")

    def test_strings(self):
        self.good(f"select '{'a' * 40}' as x from t", "select '' as x from t", "select '''' as x from t",
                  "select '" + "''" * 40 + "' as x from t", "select 'a'as x from t")
        self.marked(f"select #'{'a' * 41}' as x from t", "select #'" + "''" * 41 + "' as x from t", "select #'a as x from t",
                    "select #' ", "select #'a''", "select #'''", "select x from t where #'a\n' = x", "select #'a''b",
                    "select 'a' #'b' as x from t")

    def test_strings_are_no_keywords_and_no_signs(self):
        self.marked("select x from t where x #'and' y", "select x from t where x #'=' y", "select x #'as' y from t",
                    "select x #'from' t", "#'select' x", "select x from t where x in #'(' select x", "select x #'+' y")

    def test_names(self):
        self.good("select abcdefghijkl from t", "select x from t as abcdefghijkl")
        self.marked("select #abcdefghijklm from t", "select x from t as #abcdefghijklm", "select t.#abcdefghijklm",
                    "select #self from t", "select x from #self", "select x as #self")

    def test_parameters(self):
        self.good("select :p as x from t", "select :abcdefghijkl as x from t")
        self.marked("select #: p", "select #:", "select #:abcdefghijklm as x", "select #:as", "select x from #:t",
                    "select x as #:x", "select x from t order by #:x")

    def test_keywords_are_no_names(self):
        for word in "all any as by cross desc else end first group having on or order then union when".split():
            self.marked(f"select x from #{word}", f"select x from t as #{word}", f"select t.#{word}",
                        f"select x from t where #{word}")

    def test_signs(self):
        self.good("select x<=y as b from t", "select x<>y as b from t", "select x>-1 as b from t")
        self.marked("select x<#<y", "select x=#>y", "select x< #= y", "select x<=#>y", "select x#!=y", "select x >#>= y")


class Depth(Marked):
    def test_thirty_parentheses(self):
        self.good("select " + "(" * 30 + "x" + ")" * 30 + " from t")
        self.marked("select " + "(" * 30 + "#(x" + ")" * 31 + " from t")
        self.marked("(" * 30 + "#(select x from t" + ")" * 31)
        self.good("(" * 30 + "select x from t" + ")" * 30)
        self.good("select x from " + "(" * 30 + "t" + ")" * 30)
        self.marked("select x from " + "(" * 30 + "#(t")

    def test_thirty_cases(self):
        self.good("select " + "case when " * 30 + "x" + " then y end" * 30 + " as a from t")
        self.marked("select " + "case when " * 30 + "#case when x")

    def test_both_count(self):
        self.marked("select " + "(case when " * 15 + "#(x)")
        self.marked("select " + "(case when " * 15 + "#case")
        self.marked("select " + "(" * 29 + "case when x then #(y)")
        self.good("select " + "(" * 29 + "case when x then y end" + ")" * 29 + " as a from t")

    def test_what_is_closed_does_not_count(self):
        self.good("select " + "(x) + " * 40 + "1 as a from t")
        self.good("select " + "case when x then y end + " * 40 + "1 as a from t")
        self.marked("select (x) + case when x then y end + " + "(" * 30 + "#(")

    def test_not_the_word_ahead_of_it(self):
        deep = "(" * 30
        for words in ("x in", "x not in", "exists", "one", "x = any", "x < all", "count", "sum", "coalesce", "- "):
            self.marked(f"select {deep}{words} #(", f"select {deep}{words} #(select", f"select {deep}{words}#")
        inside = "select x from t where exists (" * 30 + "select x from t "
        self.marked(f"{inside}group by #()", f"{inside}union #(select", f"{inside}, #(t", f"{inside}join #(select",
                    f"{inside}where x = #(y)", f"{inside}where #case", f"{inside}group by x having #(")

    def test_a_wrong_word_is_still_wrong(self):
        self.marked("select " + "(" * 30 + "#)")
        self.marked("select " + "(" * 30 + "x #(")


if __name__ == "__main__":
    unittest.main()
