"""[17], [18]: instructions and programs read from texts."""

import random

from enoughcharge.errors import InvalidText
from enoughcharge.kinds import is_cell, is_instruction, is_name
from enoughcharge.programreadings import instruction_read, program_read
from enoughcharge.programtexts import instruction_text, program_text
from tests.samples import COUNT, LATE, LOOP, MIXED, NOTHING, SIXTY, TWICE, Checks, negated, nested

NINES = "9" * 60
INSTRUCTIONS = (
    ("set", "n", ("plus", "n", 1), 2), ("set", "set", 0, 1), ("set", "a", "plus", SIXTY), ("set", "n", SIXTY, 1),
    ("set", "mark", ("times", ("minus", "plus", "times"), ("plus", 0, "minus")), 10),
    ("set", "n", nested("minus", "n", 30), 1), ("set", "n", nested("times", SIXTY, 30), 1),
    ("ask", "told", 7), ("ask", "abcdefgh", 10), ("jump", 0, 1), ("jump", SIXTY, SIXTY), ("jump", 99, 10),
    ("unless", ("less", "n", 2), 3, 1), ("unless", ("not", ("equal", "not", "less")), 0, 1),
    ("unless", ("less", ("plus", 1, 2), ("minus", "equal", 3)), 12, 1), ("unless", negated(("less", 1, 2), 29), 0, 1),
    ("unless", ("less", nested("plus", 1, 29), nested("plus", "n", 29)), 0, 1),
    ("mark", 1), ("mark", 10), ("off", 9), ("end",),
)

# Texts of instructions that cannot be read, with the index of the word to blame.
UNREADABLE = (
    ("", 0), (" ", 0), ("  ", 0), ("stop", 0), ("End", 0), (" end", 0), ("end ", 1), ("end end", 1), ("end 1", 1), ("end  ", 1),
    ("end\n", 0), ("\nend", 0), ("\n", 0), ("cell n kept 1 0", 0), ("told -", 0), ("jump", 1), ("jump ", 1), ("jump 0", 2),
    ("jump 0 ", 2), ("jump  1", 1), ("jump 0 1 ", 3), ("jump 0 1 1", 3), ("jump 0  1", 2), ("jump n 1", 1), ("jump -1 1", 1),
    ("jump 00 1", 1), ("jump 01 1", 1), ("jump 0 0", 2), ("jump 0 01", 2), ("jump 0 1\n", 2), ("jump 0\n 1", 1), ("jump +1 1", 1),
    ("jump 1_0 1", 1), ("jump 1" + NINES + " 1", 1), ("jump " + NINES + " 1" + NINES, 2), ("jump plus(1,2) 1", 1), ("jump 0 x", 2),
    ("mark", 1), ("mark 0", 1), ("mark x", 1), ("mark 1 1", 2), ("mark  1", 1), ("mark 1 ", 2), ("mark 1\n", 1), ("mark\n1", 0),
    ("off", 1), ("off 0", 1), ("off -1", 1), ("off 1 1", 2), ("ask", 1), ("ask n", 2), ("ask N 1", 1), ("ask 1 1", 1), ("ask n 0", 2),
    ("ask ninechars 1", 1), ("ask n n", 2), ("ask n 1 1", 3), ("ask -", 1), ("set", 1), ("set n", 2), ("set n 1", 3), ("set n 1 0", 3),
    ("set n 1 1 1", 4), ("set n 1 1 ", 4), ("set 1 1 1", 1), ("set n N 1", 2), ("set n 01 1", 2), ("set n 1" + NINES + " 1", 2),
    ("set n ninechars 1", 2), ("set n less(1,2) 1", 2), ("set n not(less(1,2)) 1", 2), ("set n plus 1 1", 4), ("set n -1 1", 2),
    ("unless", 1), ("unless less(1,2)", 2), ("unless less(1,2) 3", 3), ("unless less(1,2) 3 0", 3), ("unless less(1,2) n 1", 2),
    ("unless less(1,2) 3 1 1", 4), ("unless n 3 1", 1), ("unless 1 3 1", 1), ("unless plus(1,2) 3 1", 1), ("unless not(1) 3 1", 1),
    ("unless less 3 1", 1), ("unless not(plus(1,2)) 3 1", 1), ("unless less(1,less(1,2)) 3 1", 1), ("unless not(less(1,2),1) 3 1", 1),
    ("unless less(1, 2) 3 1", 1), ("unless equal(1) 3 1", 1), ("unless x y z", 1), ("set x", 2), ("set X", 1), ("sett n 1 1", 0),
)

# Words that write no expression.
NO_EXPRESSIONS = (
    "", "plus", "(", ")", "()", "plus(", "plus)", "plus()", "plus(1)", "plus(1,)", "plus(,1)", "plus(1,2", "plus(1,2))", "plus((1,2)",
    "plus((1),2)", "plus(1,(2))", "(plus(1,2))", "plus(1,2,3)", "plus(1;2)", "plus(1,2)x", "x(1,2)", "Plus(1,2)", "plus(1,2)(3)",
    "plus(1,2)(3,4)", "plus(1,2),3", "plus(1),minus(2)", "plus(a),(b)", "plus[1,2]", "plus(01,2)", "plus(1,00)", "plus(-1,2)",
    "plus(1,N)", "plus(1,ninechars)", "plus(1,2\n)", "plus\n(1,2)", "minus(times(1,2),plus(1))", "times(1,plus)2)", "1(2)", "1,2",
    "plus(plus,1,times)", "plus(1,minus)(1,2)", "plus(1,less(1,2))", "plus(plus(1,2)", "a(", "a)", "a(1)", "0x1", "1.0", "1e3",
)

PROGRAMS = (COUNT, TWICE, LATE, LOOP, NOTHING, MIXED)
# What can be written and read, and is no program.
LOOSE = (
    ((("n", "kept", 3, 3), ("a", "quick", 1, 0), ("n", "saved", 3, 0), ("a", "quick", 1, 0)), (("mark", 1),), ("b", "z")),
    ((), (("jump", 99, 1), ("set", "m", "o", 1), ("ask", "plus", 1), ("off", 2)), ("cell", "told")),
    ((("told", "kept", SIXTY, SIXTY), ("cell", "saved", 0, 0)), (("end",), ("end",)), ()),
)

# Texts of programs that cannot be read, with the line and the field to blame.
BROKEN = (
    ("", 0, 0), ("\n", 0, 0), (" ", 0, 0), ("end", 0, 0), ("told", 0, 1), ("told ", 0, 1), ("told  ", 0, 1), ("told -", 1, 0),
    ("told -\n", 1, 0), ("told -\n\nend", 1, 0), ("told -\nend\n", 2, 0), ("told -\nend\n\n", 2, 0), ("told -\nend ", 1, 1),
    ("told -\ntold -\nend", 1, 0), ("told -\nend\ntold -", 2, 0), ("told - -\nend", 0, 2), ("told - \nend", 0, 2),
    ("told -\ncell n kept 1 0\nend", 1, 0), ("told -\nend\ncell n kept 1 0", 2, 0), ("told -\nstop", 1, 0), ("\ntold -\nend", 0, 0),
    ("cell n kept 1 0", 1, 0), ("cell n kept 1 0\ncell m kept 1 0", 2, 0), ("cell n kept 1 0\ntold n", 2, 0), ("Told -\nend", 0, 0),
    ("cell n kept 1 0\nend", 1, 0), ("cell n kept 1 0\nend\ntold n", 1, 0), ("cell n kept 1 0\n\ntold n\nend", 1, 0),
    ("end\ntold -", 0, 0), ("mark 0\ntold -", 0, 0), ("cell", 0, 1), ("cell n", 0, 2), ("cell n kept", 0, 3), ("cell n kept 1", 0, 4),
    ("cell n kept 1 0 ", 0, 5), ("cell n kept 1 0 0", 0, 5), ("cell N kept 1 0", 0, 1), ("cell n slow 1 0", 0, 2),
    ("cell n Kept 1 0", 0, 2), ("cell n kept -1 0", 0, 3), ("cell n kept 01 0", 0, 3), ("cell n kept 1 2", 0, 4),
    ("cell n kept 1 2 3", 0, 4), ("cell n kept 1 00", 0, 4), ("cell n kept 1 x", 0, 4), ("cell n kept 1  0", 0, 4), ("cell  n kept 1 0", 0, 1),
    ("cell ninechars kept 1 0", 0, 1), ("cell n kept 1" + NINES + " 0", 0, 3), ("cell n kept 9 1" + NINES, 0, 4), ("cell n  kept 1 0", 0, 2),
    ("cell n kept 3 4\ntold", 0, 4), ("cell n kept 3 3\ntold", 1, 1), ("cells n kept 1 0", 0, 0), ("told b,a\nend", 0, 1),
    ("told a,a\nend", 0, 1), ("told a,\nend", 0, 1), ("told ,a\nend", 0, 1), ("told a,,b\nend", 0, 1), ("told a b\nend", 0, 2),
    ("told a,-\nend", 0, 1), ("told --\nend", 0, 1), ("told A\nend", 0, 1), ("told a,b,ninechars\nend", 0, 1), ("told 1\nend", 0, 1),
    ("told , \nend", 0, 1), ("told -\nmark 1\nmark 0", 2, 1), ("told -\njump 0", 1, 2), ("told -\nmark 1\nend x", 2, 1),
    ("told -\nset n plus(1) 1\nstop", 1, 2), ("told -\nmark 1\nstop", 2, 0), ("told a, b\nend", 0, 1), ("cell n kept 1 0 \nend", 0, 5),
)


class InstructionReadTest(Checks):
    def test_what_is_written_is_read_back(self):
        for instruction in INSTRUCTIONS:
            text = instruction_text(instruction)
            self.same(instruction_read(text), instruction)
            self.same(instruction_read(text=text, line=3, field=4), instruction)

    def test_what_cannot_be_read(self):
        for text, field in UNREADABLE:
            with self.subTest(text=text):
                self.refused(InvalidText, {"line": 0, "field": field}, instruction_read, text)
                self.refused(InvalidText, {"line": 7, "field": field + 2}, instruction_read, text, line=7, field=2)
                self.refused(InvalidText, {"line": 0, "field": field + 5}, instruction_read, text=text, field=5)
                self.refused(InvalidText, {"line": 5, "field": field}, instruction_read, text=text, line=5)

    def test_line_and_field_are_passed_by_name(self):
        with self.assertRaises(TypeError):
            instruction_read("end", 0)

    def test_words_that_are_no_expressions(self):
        for word in NO_EXPRESSIONS:
            if word != "plus":
                with self.subTest(word=word):
                    self.refused(InvalidText, {"line": 0, "field": 2}, instruction_read, f"set n {word} 1")
                    self.refused(InvalidText, {"line": 0, "field": 1}, instruction_read, f"unless less({word},1) 0 1")
            self.refused(InvalidText, {"line": 0, "field": 1}, instruction_read, f"unless {word} 0 1")
            self.refused(InvalidText, {"line": 0, "field": 1}, instruction_read, f"unless not({word}) 0 1")

    def test_sixty_digits(self):
        self.same(instruction_read(f"set n {NINES} {NINES}"), ("set", "n", SIXTY, SIXTY))
        self.same(instruction_read(f"set n plus({NINES},1) 1"), ("set", "n", ("plus", SIXTY, 1), 1))
        for text, field in (
            (f"set n {NINES}9 1", 2), (f"set n plus({NINES}9,1) 1", 2), (f"set n 1 {NINES}9", 3), (f"jump {NINES}9 1", 1),
            (f"unless less(1,{NINES}9) 0 1", 1), (f"mark {NINES}9", 1), (f"mark 0{NINES[1:]}", 1),
        ):
            self.refused(InvalidText, {"line": 0, "field": field}, instruction_read, text)

    def test_thirty_brackets(self):
        for many in (29, 30, 31, 32, 400):
            left = "plus(" * many + "1" + ",1)" * many
            right = "plus(1," * many + "1" + ")" * many
            wide = "plus(" + ",".join(["minus(1," * (many - 1) + "1" + ")" * (many - 1)] * 2) + ")"
            for word in (left, right, wide):
                self.check_read(f"set n {word} 1", 2, many <= 30)
            self.check_read("unless " + "not(" * (many - 1) + "less(1,2)" + ")" * (many - 1) + " 0 1", 1, many <= 30)
            self.check_read("unless less(1," + right[:-1] + ")) 0 1", 1, many <= 29)

    def check_read(self, text, field, possible):
        if possible:
            self.assertEqual(instruction_text(instruction_read(text)), text)
        else:
            self.refused(InvalidText, {"line": 0, "field": field}, instruction_read, text)

    def test_spoilt_texts_are_refused_or_written_as_they_were(self):
        pick = random.Random(5)
        letters = "01an(), \nplus"
        for instruction in INSTRUCTIONS * 40:
            text = instruction_text(instruction)
            at = pick.randrange(len(text) + 1)
            spoilt = text[:at] + pick.choice(("", pick.choice(letters))) + text[at + pick.randrange(3):]
            try:
                read = instruction_read(spoilt)
            except InvalidText as error:
                self.assertTrue(0 <= error.field <= len(spoilt.split(" ")))
                self.check_blame(spoilt.split(" "), error.field)
                continue
            self.assertTrue(is_instruction(read))
            self.assertEqual(instruction_text(read), spoilt)

    def check_blame(self, words, field):
        """The words ahead of the blamed one can stand: what is missing behind them is blamed on its own."""
        if field > 0:
            with self.assertRaises(InvalidText) as caught:
                instruction_read(" ".join(words[:field] + ["?"]))
            self.assertEqual(caught.exception.field, field)


class ProgramReadTest(Checks):
    def test_what_is_written_is_read_back(self):
        for program in PROGRAMS + LOOSE:
            text = program_text(program)
            self.same(program_read(text), program)
            self.same(program_read(text=text), program)
            self.assertEqual(program_text(program_read(text)), text)

    def test_what_cannot_be_read(self):
        for text, line, field in BROKEN:
            with self.subTest(text=text):
                self.refused(InvalidText, {"line": line, "field": field}, program_read, text)

    def test_unreadable_instructions(self):
        for text, field in UNREADABLE:
            if "\n" not in text:
                for ahead in ((), ("mark 1",), ("mark 1", "end", "off 2")):
                    rows = ("cell n kept 1 0", "told n") + ahead + (text, "stop")
                    self.refused(InvalidText, {"line": 2 + len(ahead), "field": field}, program_read, "\n".join(rows))

    def test_each_line_missing_or_twice(self):
        for program in PROGRAMS + LOOSE:
            rows = program_text(program).split("\n")
            for at in range(len(rows)):
                self.check_rows(rows[:at] + rows[at + 1:], program)
                self.check_rows(rows[:at + 1] + rows[at:], program)
                self.check_rows(rows[:at] + [""] + rows[at:], program)

    def check_rows(self, rows, program):
        """A line of told that is missing or there twice is refused at the first line that is out of place."""
        many = len(program[0])
        told = [row for row, text in enumerate(rows) if text.startswith("told ")]
        if "" in rows:
            wanted = rows.index("")
        elif not told:
            wanted = many
        elif len(told) == 2:
            wanted = told[1]
        elif told[0] == len(rows) - 1:
            wanted = len(rows)
        else:
            wanted = None
        text = "\n".join(rows)
        if wanted is None:
            self.assertEqual(program_text(program_read(text)), text)
        else:
            self.refused(InvalidText, {"line": wanted, "field": 0}, program_read, text)

    def test_spoilt_texts_are_refused_or_written_as_they_were(self):
        pick = random.Random(6)
        letters = "01an(), \ntold-"
        for program in (PROGRAMS + LOOSE) * 60:
            text = program_text(program)
            at = pick.randrange(len(text) + 1)
            spoilt = text[:at] + pick.choice(("", pick.choice(letters))) + text[at + pick.randrange(3):]
            try:
                cells, code, told = program_read(spoilt)
            except InvalidText as error:
                self.assertTrue(0 <= error.line <= len(spoilt.split("\n")))
                continue
            self.assertTrue(all(map(is_cell, cells)) and all(map(is_instruction, code)) and all(map(is_name, told)))
            self.assertEqual(program_text((cells, code, told)), spoilt)
