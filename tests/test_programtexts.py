"""[17]: texts of programs."""

from enoughcharge.programtexts import expression_text, instruction_text, program_text
from tests.samples import COUNT, LATE, LOOP, MIXED, NOTHING, SIXTY, TWICE, Checks, negated, nested


class ProgramTextsTest(Checks):
    def test_expressions_and_tests(self):
        for expression, text in (
            (0, "0"), (17, "17"), (SIXTY, "9" * 60), ("n", "n"), ("plus", "plus"), (("plus", 1, "n"), "plus(1,n)"),
            (("minus", ("times", "a", 2), "plus"), "minus(times(a,2),plus)"), (("less", "n", 2), "less(n,2)"),
            (("equal", 0, ("plus", 1, 1)), "equal(0,plus(1,1))"), (("not", ("less", 1, 2)), "not(less(1,2))"),
            (("not", ("not", ("equal", "not", "less"))), "not(not(equal(not,less)))"),
        ):
            self.same(expression_text(expression), text)
            self.same(expression_text(expression=expression), text)

    def test_deep(self):
        self.same(expression_text(nested("plus", "n", 3)), "plus(1,plus(plus(1,n),1))")
        self.same(expression_text(negated(("less", 1, 2), 30)), "not(" * 30 + "less(1,2)" + ")" * 30)
        self.same(expression_text(nested("plus", "n", 30)).count("plus("), 30)

    def test_numbers_of_any_size(self):
        for digits in (59, 60, 61, 119, 120, 121, 4300, 4301, 9000):
            self.assertEqual(expression_text(10 ** digits), "1" + "0" * digits)
            self.assertEqual(expression_text(10 ** digits - 1), "9" * digits)

    def test_instructions(self):
        for instruction, text in (
            (("set", "n", ("plus", "n", 1), 2), "set n plus(n,1) 2"), (("set", "set", 0, SIXTY), "set set 0 " + "9" * 60),
            (("ask", "n", 1), "ask n 1"), (("jump", 7, 3), "jump 7 3"), (("unless", ("less", "n", 2), 3, 1), "unless less(n,2) 3 1"),
            (("mark", 4), "mark 4"), (("off", 5), "off 5"), (("end",), "end"),
        ):
            self.same(instruction_text(instruction), text)
            self.same(instruction_text(instruction=instruction), text)

    def test_programs(self):
        for program, text in (
            (COUNT, "cell n kept 3 0\ntold n\nunless less(n,2) 3 1\nset n plus(n,1) 2\njump 0 1\nend"),
            (TWICE, "cell q quick 1 0\ncell x kept 3 0\ntold x\nset x plus(x,1) 1\nset q 1 5\nend"),
            (LATE, "cell s saved 1 0\ntold s\nset s 1 6\nmark 1\nend"),
            (LOOP, "told -\njump 0 2"),
            (NOTHING, "told -\nend"),
        ):
            self.same(program_text(program), text)
            self.same(program_text(program=program), text)
        self.assertIn("\ntold kept,set\nask kept 2\noff 4\nset set minus(kept,times(set,3)) 1\n", program_text(MIXED))

    def test_what_the_readers_return(self):
        read = ((("n", "kept", 3, 3), ("a", "quick", 1, 0), ("n", "saved", 3, 0)), (("jump", 99, 1), ("mark", 1)), ("b", "z"))
        text = "cell n kept 3 3\ncell a quick 1 0\ncell n saved 3 0\ntold b,z\njump 99 1\nmark 1"
        self.same(program_text(read), text)
