"""burstshop.texts: promises [211] to [213], and [2] to [4] there."""

import inspect
import re
import unittest

from burstshop import texts as module
from burstshop.errors import BadProgram, InvalidText, Unsound
from burstshop.machines import Machine
from burstshop.nets import Net
from burstshop.texts import read_machine, read_net, read_program, write_machine, write_net, write_program
from tests.circuits import (FOLLOWER, JOIN, UNSOUND, codes_needed, random_coding, slow_clash, some_nets, wrong_coding)
from tests.helper import (Case, anything, first_wrong, names, nest, random_machine, sample, slow_text, some_machines,
                          some_trees)
from tests.test_machines import slow_fault, unsound_machines, wrong_machine
from tests.test_programs import LARGE, WRONG, A, AB, B, choose, do, loop, row, some_programs, wrong_path

NAME = "[a-z][a-z0-9]*"
NAMES = rf"{NAME}(?:\+{NAME})*"
# The signs of program texts and some others.
SIGNS = "az09+>[](){};|. A-"
MACHINE = "inputs a b\noutputs z\narc 0 a+b z 1\narc 1 a+b z 0\n"
NET = MACHINE + "code 0 0\ncode 1 1\nline 0 |(&(x1,x2),&(x0,x2),&(x0,x1))\nline 1 |(&(x1,x2),&(x0,x2),&(x0,x1))\n"


def is_program_text(text):
    """Whether a text has the form of [211]: dos and stops become @, then brackets about @ do, again and again."""
    if "@" in text:
        return False
    text = re.sub(rf"{NAMES}>(?:{NAMES})?", "@", text).replace(".", "@")
    before = None
    while text != before:
        before = text
        text = re.sub(r"\[@(?:;@)*\]|\(@(?:\|@)*\)|\{@\}", "@", text)
    return text == "@"


def goes_on(text):
    """Whether some text of a program begins like this."""
    opened = []
    for sign in text:
        if sign in "[({":
            opened.append({"[": "]", "(": ")", "{": "}"}[sign])
        elif sign in "])}":
            if not opened or opened.pop() != sign:
                return False
    return any(is_program_text(text + end + "".join(opened[::-1])) for end in ("", "a", ">", "a>", "."))


def first_bad_sign(text):
    """The index that InvalidText tells for a program's text, or None, by the words of [210] and [211]."""
    for k in range(1, len(text) + 1):
        if not goes_on(text[:k]):
            return k - 1
    return None if is_program_text(text) else len(text)


def slow_program_text(program):
    """The words of [211]."""
    head = program[0]
    if head == "do":
        return "+".join(program[1]) + ">" + "+".join(program[2])
    if head == "stop":
        return "."
    found = [slow_program_text(part) for part in (program[1:] if head == "loop" else program[1])]
    return {"row": "[" + ";".join(found) + "]", "choose": "(" + "|".join(found) + ")",
            "loop": "{" + found[0] + "}"}[head]


def slow_machine_text(machine):
    """The words of [212]."""
    text = " ".join(("inputs",) + machine.inputs) + "\n" + " ".join(("outputs",) + machine.outputs) + "\n"
    for state, burst, flips, after in machine.arcs:
        text += f"arc {state} {'+'.join(burst)} {'+'.join(flips) or '-'} {after}\n"
    return text


def slow_net_text(net):
    """The words of [213]."""
    text = slow_machine_text(net.machine)
    for state, code in enumerate(net.coding):
        text += f"code {state}" + (f" {code}" if code else "") + "\n"
    for function, tree in enumerate(net.trees):
        text += f"line {function} {slow_text(tree)}\n"
    return text


class Wrong(Exception):
    """A line is wrong; its number is the argument."""


def line_at(text, number):
    """A line without its newline, or None if there is no such line; raise Wrong if it is not ended."""
    ended = text.split("\n")
    if number < len(ended):
        return ended[number - 1]
    if number == len(ended) and ended[-1]:
        raise Wrong(number)
    return None


def slow_read_lines(text):
    """Inputs, outputs, arcs, and the number behind the machine's last line; raise Wrong, by the words of [212]."""
    rows = []
    for number, word in ((1, "inputs"), (2, "outputs")):
        line = line_at(text, number)
        found = re.fullmatch(rf"{word}((?: {NAME})*)", line) if line is not None else None
        if not found:
            raise Wrong(number)
        rows.append(found[1].split())
        told = wrong_machine(rows[0], rows[1] if number == 2 else [], [])
        if told is not None:
            raise Wrong(number)
    arcs, number = [], 3
    while True:
        ended = text.split("\n")
        if number > len(ended) or ended[number - 1].split(" ")[0] != "arc":
            return rows[0], rows[1], arcs, number
        found = re.fullmatch(rf"arc ([0-7]) ({NAMES}) ({NAMES}|-) ([0-7])", line_at(text, number))
        if not found:
            raise Wrong(number)
        flips = [] if found[3] == "-" else found[3].split("+")
        arcs.append((int(found[1]), found[2].split("+"), flips, int(found[4])))
        if wrong_machine(*rows, arcs) is not None:
            raise Wrong(number)
        number += 1


def slow_read_machine(text):
    ins, outs, arcs, number = slow_read_lines(text)
    if line_at(text, number) not in (None, "") or text.split("\n")[number - 1:] not in ([], [""]):
        raise Wrong(number)
    return Machine(ins, outs, arcs)


def slow_read_net(text):
    """Return a net, or the error of an unsound machine as a tuple; raise Wrong, by the words of [213]."""
    ins, outs, arcs, number = slow_read_lines(text)
    machine = Machine(ins, outs, arcs)
    if slow_fault(machine) is not None:
        return slow_fault(machine)
    codes, trees = [], []
    for state in range(codes_needed(machine)):
        found = re.fullmatch(rf"code {state}(?: ([01]+))?", line_at(text, number) or "")
        if not found or len(found[1] or "") > 2 or (codes and len(found[1] or "") != len(codes[0])):
            raise Wrong(number)
        codes.append(found[1] or "")
        number += 1
    n = len(ins) + len(codes[0])
    for function in range(len(outs) + len(codes[0])):
        found = re.fullmatch(rf"line {function} (\S+)", line_at(text, number) or "")
        tree = slow_read_tree(found[1]) if found else None
        if tree is None or first_wrong(tree, n) is not None:
            raise Wrong(number)
        trees.append(tree)
        number += 1
    if text.split("\n")[number - 1:] != [""]:
        raise Wrong(number)
    return Net(machine, codes, trees)


def slow_read_tree(text):
    """The tree of a text, or None if it is not one."""
    signs = re.findall(r"x[0-4]|[01!,)]|[&|]\(", text)
    if "".join(signs) != text:
        return None

    def take():
        sign = signs.pop(0)
        if sign in ("0", "1"):
            return ("one",) if sign == "1" else ("zero",)
        if sign[0] == "x":
            return ("in", int(sign[1]))
        if sign == "!":
            return ("not", take())
        if sign in (",", ")"):
            raise IndexError
        parts = [take()]
        while signs[0] == ",":
            signs.pop(0)
            parts.append(take())
        if signs.pop(0) != ")":
            raise IndexError
        return ("and" if sign == "&(" else "or", tuple(parts))
    try:
        tree = take()
    except IndexError:
        return None
    return None if signs else tree


def spoilt(text, source, signs):
    """A text that differs from another one in one place, or ends early."""
    at = source.randrange(len(text) + 1)
    kind = source.randrange(5)
    if kind == 0:
        return text[:at]
    if kind == 1:
        return text[:at] + text[at + 1:]
    return text[:at] + source.choice(signs) + text[at + (kind == 2):]


def lines_changed(text, source):
    """A text of which a line is missing, stands twice, or stands elsewhere."""
    rows = text.split("\n")[:-1]
    at, k = source.randrange(len(rows)), source.randrange(len(rows))
    kind = source.randrange(3)
    if kind == 0:
        rows.pop(at)
    elif kind == 1:
        rows.insert(k, rows[at])
    else:
        rows[at], rows[k] = rows[k], rows[at]
    return "".join(line + "\n" for line in rows)


class Interface(Case):
    def test_the_interface(self):
        told = {"write_program": "program", "write_machine": "machine", "write_net": "net", "read_program": "text",
                "read_machine": "text", "read_net": "text"}
        self.stands_in(module, told)
        for name, argument in told.items():
            self.assertEqual(list(inspect.signature(getattr(module, name)).parameters), [argument])

    def test_the_examples_of_the_document(self):
        program = ("loop", ("row", (("do", ("a",), ("z",)), ("do", ("b", "a"), ()))))
        self.assertEqual([write_program(program), write_machine(JOIN).split("\n")],
                         ["{[a>z;b+a>]}", ["inputs a b", "outputs z", "arc 0 a+b z 1", "arc 1 a+b z 0", ""]])
        self.refuses(InvalidText, {"at": 4}, read_program, "{a>z;")
        self.refuses(InvalidText, {"at": 3}, read_machine, "inputs a\noutputs\narc 0 a - 1")


class Programs(Case):
    def check(self, text):
        """Read a text that may be wrong; return whether it was."""
        at = first_bad_sign(text)
        if at is not None:
            self.refuses(InvalidText, {"at": at}, read_program, text)
        else:
            program = None
            try:
                program = read_program(text)
            except BadProgram as error:
                self.assertIsNotNone(error.path)
            if program is not None:
                self.assertEqual(write_program(program), text)
        return at is not None

    def test_texts_of_programs(self):
        told = [
            (("stop",), "."), (A, "a>"), (AB, "a+b>z"), (do(["b", "a"], ["y", "z"]), "b+a>y+z"),
            (row(A), "[a>]"), (row(A, B, ("stop",)), "[a>;b>;.]"), (choose(A, ("stop",)), "(a>|.)"),
            (loop(AB), "{a+b>z}"),
            (choose(row(A, choose(B, A)), loop(row(AB, A))), "([a>;(b>|a>)]|{[a+b>z;a>]})"),
            (do(["a1b2c3d4"], ["z0"]), "a1b2c3d4>z0"),
        ]
        for program, text in told:
            self.assertEqual(write_program(program), text)
            self.assertEqual(read_program(text), program)
            self.assertEqual([write_program(program=program), read_program(text=text)], [text, program])

    def test_what_is_read_is_what_was_written(self):
        for program in some_programs(500, 1) + LARGE + [nest(5, lambda part: row(part), A)]:
            text = write_program(program)
            self.assertEqual(text, slow_program_text(program))
            self.assertEqual(read_program(text), program)
            self.assertEqual(write_program(read_program(text)), text)

    def test_what_is_no_program(self):
        for thing, path in WRONG:
            self.refuses(BadProgram, {"path": path}, write_program, thing)
        for thing in anything():
            if wrong_path(thing) is not None:
                self.refuses(BadProgram, {"path": wrong_path(thing)}, write_program, thing)

    def test_what_is_no_text(self):
        for thing in anything():
            if not isinstance(thing, str):
                with self.subTest(thing=names(thing)):
                    self.refuses(InvalidText, {"at": -1}, read_program, thing)
            else:
                self.check(thing)

    def test_the_first_wrong_sign(self):
        told = [
            ("", 0), (" ", 0), ("a", 1), ("a+", 2), ("a+b", 3), ("+", 0), (">", 0), ("1>", 0), ("A>", 0), ("aA>", 1),
            ("a++", 2), ("a+1", 2), ("a>1", 2), ("a>+", 2), ("a>b+", 4), ("a>b+>", 4), ("a>b>", 3), ("a> ", 2),
            ("a>;", 2),
            ("a>a>", 3), ("..", 1), (".;", 1), ("[", 1), ("[]", 1), ("[a>", 3), ("[a>|", 3), ("[a>)", 3), ("[a>;", 4),
            ("[a>;]", 4), ("[a>]]", 4), ("[a>];", 4), ("(", 1), ("()", 1), ("(a>;", 3), ("(a>|)", 4), ("(a>)|", 4),
            ("{", 1), ("{}", 1), ("{a>;", 3), ("{a>|", 3), ("{a>}}", 4), ("{a>z;", 4), ("{a>", 3), ("a >", 1),
                                                                                        ("a>\n", 2),
            ("[a>b;c>d+e0|", 11), ("[[[", 3), ("[(]", 2), ("[.a", 2), (".a", 1), ("{.]", 2), ("a.", 1), ("a[", 1),
            ("a>[", 2), ("a>b[", 3), ("a>.", 2), ("!", 0), ("&(x0)", 0), ("x0", 2), ("x0,", 2), ("[a>b1+c2;d>,", 11),
        ]
        for text, at in told:
            self.assertEqual(first_bad_sign(text), at, text)
            self.refuses(InvalidText, {"at": at}, read_program, text)

    def test_wrong_texts_by_chance(self):
        source = sample(2)
        wrong = 0
        for program in some_programs(250, 3, 6):
            for _ in range(4):
                wrong += self.check(spoilt(slow_program_text(program), source, SIGNS))
        for _ in range(1500):
            wrong += self.check("".join(source.choice(SIGNS) for _ in range(source.randint(0, 7))))
        self.assertGreater(wrong, 1500)

    def test_the_form_alone_comes_first(self):
        told = [
            ("abcdefghi>", ()), ("a+a>", ()), ("a>z+z", ()), ("[abcdefghi>]", (0,)), ("(a>)", ()), ("[a>;(b>)]", (1,)),
            ("(a>|a>|a>|a>|a>)", ()), ("[" + ";".join(["a>"] * 9) + "]", ()), ("{.}", (0,)), ("[.;a>]", (0,)),
            ("{{a>}}", (0,)), ("[a>;[a>;.];a>]", (1,)), ("[[[[[[a>]]]]]]", (0,) * 6), ("{[a>;{b>}]}", (0,)),
            ("[" + ";".join(["(a>|a>|a>|a>)"] * 4 + ["a>"]) + "]", (4,)),
            ("a" * 5000 + ">", ()), ("[" * 3000 + "." + "]" * 3000, (0,) * 6), ("{" * 3000 + "." + "}" * 3000,
                                                                                (0,) * 6),
            ("(" * 3000 + "." + ")" * 3000, ()), ("[" + ";".join(["a+a>"] * 3000) + "]", ()),
        ]
        for text, path in told:
            self.refuses(BadProgram, {"path": path}, read_program, text)
        # What is wrong with the form comes ahead, wherever it stands.
        for text, at in (("a+a>;", 4), ("(a>", 3), ("{.}}", 3), ("abcdefghi", 9), ("[" * 100000, 100000),
                         ("[" * 50000 + "a>" + "]" * 49999, 100001), ("{.", 2), ("[a+a>;a+a>;", 11)):
            self.refuses(InvalidText, {"at": at}, read_program, text)


class Machines(Case):
    def check(self, text):
        try:
            told = slow_read_machine(text)
        except Wrong as wrong:
            self.refuses(InvalidText, {"at": wrong.args[0]}, read_machine, text)
            return True
        self.says(True, read_machine(text) == told)
        return False

    def test_texts_of_machines(self):
        told = [
            (Machine(["a"], [], []), "inputs a\noutputs\n"),
            (FOLLOWER, "inputs a\noutputs z\narc 0 a z 1\narc 1 a z 0\n"),
            (Machine(["c", "a1", "b"], ["z", "x", "y"], [(7, ["b", "c"], ["y", "z"], 7), (0, ["a1"], [], 3)]),
             "inputs c a1 b\noutputs z x y\narc 7 c+b z+y 7\narc 0 a1 - 3\n"),
            (JOIN, MACHINE),
        ]
        for machine, text in told:
            self.assertEqual(write_machine(machine), text)
            self.assertEqual(slow_machine_text(machine), text)
            self.says(True, read_machine(text) == machine)
            self.says(True, read_machine(text=write_machine(machine=machine)) == machine)
        # Names may stand in any order, and the machine need not be sound.
        found = read_machine("inputs c a b\noutputs z x\narc 0 a+b+c x+z 1\narc 0 b+a x 1\n")
        self.assertEqual(found.arcs, ((0, ("c", "a", "b"), ("z", "x"), 1), (0, ("a", "b"), ("x",), 1)))
        full = Machine(["a"], [], [(7, ["a"], [], 7)] * 16)
        self.says(True, read_machine(write_machine(full)) == full)

    def test_what_is_read_is_what_was_written(self):
        source = sample(4)
        for machine in some_machines(150, 5, 8) + unsound_machines(60, 6):
            text = write_machine(machine)
            self.assertEqual(text, slow_machine_text(machine))
            self.says(True, read_machine(text) == machine)
            self.assertEqual(write_machine(read_machine(text)), text)
        for _ in range(40):
            machine = random_machine(source, 8, 16)
            self.says(True, read_machine(write_machine(machine)) == machine)

    def test_what_is_no_text(self):
        for thing in anything():
            if not isinstance(thing, str):
                self.refuses(InvalidText, {"at": 0}, read_machine, thing)
                self.refuses(InvalidText, {"at": 0}, read_net, thing)
            else:
                self.check(thing)

    def test_the_first_wrong_line(self):
        head = "inputs a b\noutputs z\n"
        told = [
            # Lines that are missing or not ended.
            ("", 1), ("inputs a", 1), ("inputs a\n", 2), ("inputs a\noutputs", 2), ("inputs a\noutputs z", 2),
            ("inputs a\noutputs\narc 0 a - 1", 3), (head + "arc 0 a z 1\narc 1 a z 0", 4), (head + " ", 3), ("\n", 1),
            ("inputs", 1), ("inputs a\n\n", 2), (head + "a", 3),
            # Blanks at the ends, or twice.
            ("inputs a \noutputs\n", 1), (" inputs a\noutputs\n", 1), ("inputs  a\noutputs\n", 1),
            ("inputs a\noutputs \n", 2), ("inputs a\n outputs\n", 2), ("inputs a\noutputs  z\n", 2),
            (head + "arc 0 a z 1 \n", 3), (head + " arc 0 a z 1\n", 3), (head + "arc 0  a z 1\n", 3),
            (head + "arc  0 a z 1\n", 3), (head + "arc 0 a z  1\n", 3), (head + "\n", 3), (head + "arc 0 a z 1\n\n", 4),
            # Names.
            ("inputs\noutputs\n", 1), ("inputs a b c d\noutputs\n", 1), ("inputs a a\noutputs\n", 1),
            ("inputs A\noutputs\n", 1), ("inputs abcdefghi\noutputs\n", 1), ("inputs 1\noutputs\n", 1),
            ("inputs a\noutputs a\n", 2), ("inputs a\noutputs z z\n", 2), ("inputs a\noutputs w x y z\n", 2),
            ("inputs a\noutputs -\n", 2), ("inputs a\noutputs Z\n", 2), ("input a\noutputs\n", 1),
            ("Inputs a\noutputs\n", 1),
            ("inputs a\noutput z\n", 2), ("outputs\ninputs a\n", 1), ("inputs a\ninputs a\n", 2),
            # Arcs.
            (head + "arc 8 a z 1\n", 3), (head + "arc 0 a z 9\n", 3), (head + "arc 00 a z 1\n", 3),
            (head + "arc -1 a z 1\n", 3), (head + "arc 0 a z +1\n", 3), (head + "arc 0 c z 1\n", 3),
            (head + "arc 0 z z 1\n", 3), (head + "arc 0 a a 1\n", 3), (head + "arc 0 a+a z 1\n", 3),
            (head + "arc 0 a z+z 1\n", 3), (head + "arc 0 - z 1\n", 3), (head + "arc 0 a+ z 1\n", 3),
            (head + "arc 0 +a z 1\n", 3), (head + "arc 0 a++b z 1\n", 3), (head + "arc 0 a z+ 1\n", 3),
            (head + "arc 0 a z\n", 3), (head + "arc 0 a 1\n", 3), (head + "arc 0 a z 1 1\n", 3), (head + "arc\n", 3),
            (head + "arc 0 a -- 1\n", 3), (head + "arc 0 a -+z 1\n", 3), (head + "arc 0 a z-\n", 3),
            (head + "arcs\n", 3),
            (head + "Arc 0 a z 1\n", 3), (head + "arc 0 a z 1\narc 0 b z 1\narc 0 a+b zz 1\n", 5),
            (head + "arc a 0 z 1\n", 3),
            (head + "arc 0 a z 1\narc 1 b - x\narc 9 9 9 9\n", 4), (head + "arc 0 a,b z 1\n", 3),
            (head + "code 0\n", 3), (NET, 5),
            # The 17th arc.
            (head + "arc 0 a z 1\n" * 17, 19), (head + "arc 0 a z 1\n" * 16 + "arc\n", 19),
            (head + "arc 0 a z 1\n" * 16 + "\n", 19), (head + "arc 0 a z 1\n" * 17 + "arc 0 a z 1", 19),
            (head + "arc 0 a z 1\n" * 16 + "arc 0 a z 1", 19), (head + "arc 0 a z 1\n" * 14 + "arc 8 a z 1\n" * 5, 17),
        ]
        for text, number in told:
            with self.subTest(text=text):
                self.assertTrue(self.check(text))
                self.refuses(InvalidText, {"at": number}, read_machine, text)
        self.assertEqual(len(read_machine(head + "arc 0 a z 1\n" * 16).arcs), 16)

    def test_wrong_texts_by_chance(self):
        source = sample(7)
        seen = {True: 0, False: 0}
        for machine in some_machines(120, 8, 6):
            text = slow_machine_text(machine)
            for _ in range(8):
                change = source.choice([lambda: spoilt(text, source, " \n-+ab2cxyz01789A")] * 2
                                       + [lambda: lines_changed(text, source)])
                seen[self.check(change())] += 1
        self.assertGreater(min(seen.values()), 50)


class Nets(Case):
    def check(self, text):
        try:
            told = slow_read_net(text)
        except Wrong as wrong:
            self.refuses(InvalidText, {"at": wrong.args[0]}, read_net, text)
            return "wrong"
        if isinstance(told, tuple):
            self.refuses(Unsound, {"why": told[0], "at": told[1]}, read_net, text)
            return "unsound"
        self.says(True, read_net(text) == told)
        return "right"

    def test_texts_of_nets(self):
        x = ("in", 0)
        told = [
            (Net(Machine(["a"], [], []), [""], []), "inputs a\noutputs\ncode 0\n"),
            (Net(Machine(["a"], [], []), ["10"], [x, ("not", ("in", 2))]),
             "inputs a\noutputs\ncode 0 10\nline 0 x0\nline 1 !x2\n"),
            (Net(FOLLOWER, ["", ""], [x]), slow_machine_text(FOLLOWER) + "code 0\ncode 1\nline 0 x0\n"),
            (Net(Machine(["a"], ["z"], [(3, ["a"], [], 1)]), ["0"] * 4, [x, ("one",)]),
             "inputs a\noutputs z\narc 3 a - 1\ncode 0 0\ncode 1 0\ncode 2 0\ncode 3 0\nline 0 x0\nline 1 1\n"),
        ]
        for net, text in told:
            self.assertEqual(write_net(net), text)
            self.assertEqual(slow_net_text(net), text)
            self.says(True, read_net(text) == net)
            self.says(True, read_net(text=write_net(net=net)) == net)
        self.assertEqual(write_net(read_net(NET)), NET)

    def test_what_is_read_is_what_was_written(self):
        source = sample(9)
        nets = some_nets(60, 10) + some_nets(30, 11, 6)
        for machine in some_machines(60, 12, 8):
            wires = source.randrange(3)
            n = len(machine.inputs) + wires
            trees = some_trees(n, 20, 13, 240)
            nets.append(Net(machine, random_coding(machine, source, wires),
                            [source.choice(trees) for _ in range(len(machine.outputs) + wires)]))
        for net in nets:
            text = write_net(net)
            self.assertEqual(text, slow_net_text(net))
            self.says(True, read_net(text) == net)
            self.assertEqual(write_net(read_net(text)), text)
        self.assertTrue(any(slow_clash(net.machine, net.coding) for net in nets))

    def test_the_first_wrong_line(self):
        head = slow_machine_text(FOLLOWER)
        right = head + "code 0 0\ncode 1 1\nline 0 x0\nline 1 |(x0,x1)\n"
        told = [
            (right, None), ("", 1), ("inputs a", 1), ("inputs a\n", 2), ("inputs a\noutputs\n", 3), (head, 5),
            (head + "code 0 0\n", 6), (head + "code 0 0\ncode 1 1\n", 7), (right[:-1], 8), (right + "\n", 9),
            (right + " ", 9), (right + "line 2 x0\n", 9), (right + "arc 0 a z 1\n", 9), (head + "code 0 0", 5),
            (head + "\ncode 0 0\n", 5), (head + "arcs\n", 5), (head + " arc 1 a z 0\n", 5), (head + "arc", 5),
            # Codes.
            (head + "code 0 000\ncode 1 000\n", 5), (head + "code 0 0\ncode 1\n", 6), (head + "code 0\ncode 1 0\n", 6),
            (head + "code 0 0\ncode 1 01\n", 6), (head + "code 1 0\ncode 0 0\n", 5), (head + "code 0 0\ncode 0 0\n", 6),
            (head + "code 0 2\n", 5), (head + "code 0 -\n", 5), (head + "code 0 \ncode 1 \n", 5),
            (head + "code 0  0\n", 5),
            (head + "code 0 0 \n", 5), (head + "code 0 0 0\n", 5), (head + "code\n", 5), (head + "code 00 0\n", 5),
            (head + "Code 0 0\n", 5), (head + " code 0 0\n", 5), (head + "code 0 0\ncode 1 1\ncode 2 0\n", 7),
            (head + "code 0 01\ncode 1 0x\n", 6),
            # Lines of functions.
            (head + "code 0\ncode 1\nline 0 x0\nline 1 x0\n", 8), (head + "code 0\ncode 1\nline 1 x0\n", 7),
            (head + "code 0\ncode 1\nline 0 x1\n", 7), (head + "code 0 0\ncode 1 0\nline 0 x1\nline 1 x2\n", 8),
            (head + "code 0\ncode 1\nline 0 x5\n", 7), (head + "code 0\ncode 1\nline 0\n", 7),
            (head + "code 0\ncode 1\nline 0 \n", 7), (head + "code 0\ncode 1\nline 0  x0\n", 7),
            (head + "code 0\ncode 1\nline 0 x0 \n", 7), (head + "code 0\ncode 1\nline 0 |(x0, x0)\n", 7),
            (head + "code 0\ncode 1\nline 0 |(x0\n", 7), (head + "code 0\ncode 1\nline 0 x0,\n", 7),
            (head + "code 0\ncode 1\nlines 0 x0\n", 7), (head + "code 0\ncode 1\nline 0 " + "!" * 8 + "x0\n", 7),
            (head + "code 0\ncode 1\nline 0 " + "!" * 100000 + "x0\n", 7),
            (head + "code 0\ncode 1\nline 0 |(" + ",".join(["x0"] * 241) + ")\n", 7),
            (head + "code 0\ncode 1\nline 0 " + "!" * 7 + "x0\n", None),
            (head + "code 0\ncode 1\nline 0 |(" + ",".join(["x0"] * 240) + ")\n", None),
            # The machine's lines, and the 17th arc.
            ("inputs a\noutputs a\ncode 0\n", 2), (head + "arc 0 a z 8\ncode 0 0\n", 5),
            ("inputs a\noutputs\n" + "arc 0 a - 1\n" * 17, 19),
            ("inputs a\noutputs\n" + "arc 0 a - 1\n" * 16 + "arc", 19),
        ]
        for text, number in told:
            with self.subTest(text=text[:200]):
                if number is None:
                    self.assertEqual(write_net(read_net(text)), text)
                else:
                    self.refuses(InvalidText, {"at": number}, read_net, text)
                if len(text) < 5000:
                    self.assertEqual(self.check(text), "right" if number is None else "wrong")

    def test_machines_that_are_not_sound(self):
        for machine, told in UNSOUND:
            text = slow_machine_text(machine)
            # Ahead of what is wrong behind the machine, and of what is missing.
            for behind in ("", "code 0\n", "code 9\n", "\n", " arc", " arc 9\n", "arcs", "x", "line 0 x0\n",
                           "Arc 0 a - 0\n"):
                self.refuses(Unsound, told, read_net, text + behind)
                self.assertEqual(self.check(text + behind), "unsound")
            # What is wrong with a line of the machine comes ahead; a last line that begins with arc is one of them.
            number = text.count("\n") + 1
            for behind in ("arc", "arc\n", "arc 0 a - 0", "arc 9 a - 0\n", "arc ", "arc  0\n"):
                self.refuses(InvalidText, {"at": number}, read_net, text + behind)
                self.assertEqual(self.check(text + behind), "wrong")
            self.refuses(InvalidText, {"at": number - 1}, read_net, text[:-1])
            self.says(True, read_machine(text) == machine)
        many = {"why": "within", "at": 0}
        self.refuses(Unsound, many, read_net, "inputs a\noutputs\n" + "arc 0 a - 1\n" * 16)
        self.refuses(Unsound, many, read_net, "inputs a\noutputs\n" + "arc 0 a - 1\n" * 16 + "code\n")

    def test_wrong_texts_by_chance(self):
        source = sample(14)
        seen = {"right": 0, "wrong": 0, "unsound": 0}
        for net in some_nets(80, 15):
            text = slow_net_text(net)
            for _ in range(6):
                change = source.choice([lambda: spoilt(text, source, " \n-+abxyz0123,()!&|")] * 2
                                       + [lambda: lines_changed(text, source)])
                seen[self.check(change())] += 1
        self.assertGreater(seen["right"], 10)
        self.assertGreater(seen["wrong"], 500)
        self.assertGreater(seen["unsound"], 10)

    def test_wrong_codings_are_wrong_lines(self):
        source = sample(16)
        for machine in some_machines(40, 17):
            for _ in range(4):
                codes = ["".join(source.choice("01") for _ in range(source.choice([0, 1, 1, 1, 2, 3])))
                         for _ in range(codes_needed(machine))]
                at = wrong_coding(machine, codes)
                text = slow_machine_text(machine)
                first = text.count("\n") + 1
                text += "".join(f"code {k}" + (" " + code if code else "") + "\n" for k, code in enumerate(codes))
                if at is not None:
                    self.refuses(InvalidText, {"at": first + at}, read_net, text)
                elif machine.outputs or codes[0]:
                    self.refuses(InvalidText, {"at": first + len(codes)}, read_net, text)


if __name__ == "__main__":
    unittest.main()
