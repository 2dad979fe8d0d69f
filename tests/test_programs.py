"""burstshop.programs: promises [120] to [123], and [2] to [4] there."""

import copy
import unittest

from burstshop import programs as module
from burstshop.errors import BadProgram, Choke, InvalidMachine, InvalidName, LimitExceeded, UnknownName
from burstshop.machines import Machine, fault, follow
from burstshop.programs import machine_of, need_program, openings, told
from tests.helper import Case, anything, names, nest, sample, subsets

STOP = ("stop",)
A, B, AB = ("do", ("a",), ()), ("do", ("b",), ()), ("do", ("a", "b"), ("z",))


def do(burst, flips=()):
    return ("do", tuple(burst), tuple(flips))


def row(*parts):
    return ("row", parts)


def choose(*parts):
    return ("choose", parts)


def loop(part):
    return ("loop", part)


def is_name(thing):
    lower = "abcdefghijklmnopqrstuvwxyz"
    return (isinstance(thing, str) and 0 < len(thing) < 9 and thing[0] in lower
            and all(sign in lower + "0123456789" for sign in thing))


def are_names(thing, least):
    if not isinstance(thing, tuple) or len(thing) < least:
        return False
    return all(is_name(name) for name in thing) and len(set(thing)) == len(thing)


def ends(program):
    """Whether a program can end, by the words of [120]."""
    head = program[0]
    return head == "do" or (head == "row" and ends(program[1][-1])) or (head == "choose" and any(map(ends, program[1])))


def parts_in(program):
    return {"row": program[-1], "choose": program[-1], "loop": program[1:]}.get(program[0], ())


def form_of(thing):
    """The first word of a node that has one of the five forms, else None."""
    if not isinstance(thing, tuple) or not thing or not isinstance(thing[0], str):
        return None
    head, held = thing[0], thing[1:]
    if head == "do" and len(held) == 2 and are_names(held[0], 1) and are_names(held[1], 0):
        return head
    if head in ("row", "choose") and len(held) == 1 and isinstance(held[0], tuple):
        return head if len(held[0]) in (range(1, 9) if head == "row" else range(2, 5)) else None
    return head if (head == "loop" and len(held) == 1) or (head == "stop" and not held) else None


class Wrong(Exception):
    pass


def look(thing, path, dos):
    """Raise Wrong with the path of the first wrong node, by the words of [120]."""
    form = form_of(thing)
    if form is None or len(path) >= 6:
        raise Wrong(path)
    if form == "do":
        dos.append(thing)
        if len(dos) == 17:
            raise Wrong(path)
    parts = parts_in(thing)
    for at, part in enumerate(parts):
        look(part, path + (at,), dos)
        if (form == "loop" or (form == "row" and at + 1 < len(parts))) and not ends(part):
            raise Wrong(path + (at,))


def wrong_path(thing):
    try:
        look(thing, (), [])
    except Wrong as wrong:
        return wrong.args[0]
    return None


def all_dos(program):
    return [program] if program[0] == "do" else [item for part in parts_in(program) for item in all_dos(part)]


def slow_openings(rest):
    """The words of [121]."""
    if len(rest) == 0 or rest[0] == STOP:
        return []
    first, behind = rest[0], list(rest[1:])
    if first[0] == "do":
        return [(first[1], first[2], tuple(behind))]
    if first[0] == "row":
        return slow_openings(tuple(list(first[1]) + behind))
    if first[0] == "loop":
        return slow_openings(tuple([first[1], first] + behind))
    found = []
    for part in first[1]:
        found += slow_openings(tuple([part] + behind))
    return found


def slow_machine(program):
    """The rests and the arcs with bursts and flips as the dos have them, by the words of [122]; at most 40 rests."""
    rests, arcs = [(program,)], []
    for at, rest in enumerate(rests):
        for burst, flips, new in slow_openings(rest):
            if new not in rests:
                rests.append(new)
            arcs.append((at, burst, flips, rests.index(new)))
        if len(rests) > 40:
            break
    return rests, arcs


def slow_told(program, row_of_names):
    """The words of [123]: the list of the flips, or the index at which it chokes."""
    rest, arrived, answers = (program,), set(), []
    for at, name in enumerate(row_of_names):
        found = slow_openings(rest)
        now = arrived | {name}
        if name in arrived or not any(now <= set(burst) for burst, _, _ in found):
            return at
        whole = [(flips, new) for burst, flips, new in found if set(burst) == now]
        answers.append(whole[0][0] if whole else ())
        arrived, rest = (set(), whole[0][1]) if whole else (now, rest)
    return answers


def random_program(source, dos, deep, inputs=("a", "b"), outputs=("y", "z"), ending=False):
    """A program with about so many dos, at most so deep."""
    if dos <= 1 or deep <= 1:
        if not ending and source.randrange(8) == 0:
            return STOP
        burst = source.choice(subsets(inputs))
        return do(source.sample(burst, len(burst)), source.sample(outputs, source.randint(0, len(outputs))))
    kind = source.choice(["row", "row", "row", "choose", "loop" if not ending else "row"])
    if kind == "loop":
        return loop(random_program(source, dos, deep - 1, inputs, outputs, True))
    many = min(dos, source.randint(2, 4)) if kind == "choose" else min(dos, source.choice([1, 2, 2, 3, 4, 8]))
    shares = [dos // many + (at < dos % many) for at in range(many)]
    source.shuffle(shares)
    must = [ending or at < many - 1 if kind == "row" else ending and at == 0 for at in range(many)]
    return (kind, tuple(random_program(source, share, deep - 1, inputs, outputs, end) for share,
                        end in zip(shares, must)))


def some_programs(many, seed, most=16, inputs=("a", "b")):
    source = sample(seed)
    rows = [A, STOP, AB, row(A), row(STOP), choose(A, STOP), loop(A), row(A, B, STOP), loop(row(AB, AB)),
            choose(STOP, STOP)]
    while len(rows) < many:
        rows.append(random_program(source, source.randint(1, most), source.randint(1, 6), inputs))
    return rows[:many]


# Programs at the bounds.
LARGE = [
    row(*[A] * 8), row(A), choose(A, B), choose(A, B, STOP, AB), choose(*[choose(*[A] * 4)] * 4),
    nest(5, lambda part: row(part), A), row(row(*[A] * 8), row(*[B] * 8)), loop(row(*[row(A, B)] * 8)),
    nest(4, lambda part: row(B, part), loop(A)), nest(5, lambda part: choose(A, part), STOP),
    row(*[choose(A, STOP)] * 8),
]
# Pairs of a value that is no program and the path of its first wrong node.
WRONG = [
    (None, ()), ((), ()), ("stop", ()), (["stop"], ()), (("stop", ()), ()), (("Stop",), ()), (("halt",), ()),
    ((STOP,), ()),
    (("do",), ()), (("do", ("a",)), ()), (("do", ("a",), (), ()), ()), (("do", (), ("z",)), ()),
    (("do", ["a"], ()), ()),
    (("do", ("a",), []), ()), (("do", "a", ()), ()), (("do", ("a",), "z"), ()), (("do", ("a", "a"), ()), ()),
    (("do", ("a",), ("z", "z")), ()), (("do", ("A",), ()), ()), (("do", ("a",), ("1",)), ()), (("do", (None,), ()), ()),
    (("do", ("abcdefghi",), ()), ()), (("do", ("a",), (True,)), ()), (["do", ("a",), ()], ()),
    (("do", ("a",), None), ()),
    (("row", ()), ()), (("row", [A]), ()), (("row", A), (0,)), (("row",), ()), (("row", (A,), ()), ()),
    (("row", (A,) * 9), ()),
    (("row", A, A), ()), (("choose", (A,)), ()), (("choose", ()), ()), (("choose", (A,) * 5), ()),
    (("choose", [A, A]), ()),
    (("choose", (A, A), A), ()), (("stop", ("a",), ()), ()), (("row", ("a",), ()), ()), (("loop", ("a",), ("z",)), ()),
    (("loop", A, A, A), ()), (("row", (A,), (A,), (A,)), ()), (("choose", ("a", "b"), ()), ()), (("stop", (), ()), ()),
    (("loop",), ()), (("loop", A, A), ()), (("loop", (A,)), (0,)), (("loop", None), (0,)),
    (("loop", ()), (0,)), (("row", (None, None)), (0,)), (("row", (A, None)), (1,)),
    (("choose", (A, B, ["stop"])), (2,)),
    (loop(row(A, ("do", (), ()))), (0, 1)), (row(A, choose(B, row()), None), (1, 1)),
    # Parts that must be able to end and cannot.
    (loop(STOP), (0,)), (loop(loop(A)), (0,)), (row(STOP, A), (0,)), (row(A, loop(A), A), (1,)),
    (row(A, STOP, None), (1,)),
    (row(None, STOP), (0,)), (loop(row(A, STOP)), (0,)), (loop(choose(STOP, STOP)), (0,)),
    (row(choose(STOP, loop(A)), A), (0,)),
    (loop(row(STOP, A)), (0, 0)), (row(row(A, STOP), A), (0,)), (row(row(STOP, A), A), (0, 0)),
    (row(row(loop(STOP), A), A), (0, 0, 0)),
    (row(loop(row(A, None)), A), (0, 0, 1)), (choose(loop(STOP), None), (0, 0)), (row(A, row(row(row(STOP))), A), (1,)),
    (loop(row(choose(A, STOP), choose(STOP, STOP))), (0,)), (row(choose(STOP, row(A, STOP)), STOP), (0,)),
    (row(STOP, STOP), (0,)),
    # 7 deep.
    (nest(6, lambda part: row(part), A), (0,) * 6), (nest(6, lambda part: row(part), None), (0,) * 6),
    (nest(6, lambda part: row(A, part), STOP), (1,) * 5 + (0,)), (nest(6, lambda part: choose(part, A), A), (0,) * 6),
    (nest(30, lambda part: row(part), A), (0,) * 6), (nest(5, lambda part: row(part), loop(STOP)), (0,) * 6),
    (nest(30, lambda part: loop(part), A), (0,) * 6), (nest(5, lambda part: row(part), None), (0,) * 5),
    # 17 dos.
    (row(row(*[A] * 8), row(*[A] * 8), A), (2,)), (choose(*[choose(*[A] * 4)] * 3, row(*[A] * 5)), (3, 4)),
    (row(row(*[A] * 8), row(*[A] * 8), loop(STOP), A), (2, 0)),
    (row(row(*[A] * 8), row(*[A] * 8), row(row(B), None)), (2, 0, 0)),
    (row(row(*[A] * 8), row(*[A] * 7), row(row(B), None)), (2, 1)), (row(*[row(*[A] * 8)] * 3), (2, 0)),
    (row(row(*[A] * 8), row(*[A] * 8), ("do", (), ())), (2,)), (loop(choose(*[row(*[A] * 6)] * 3)), (0, 2, 4)),
]


class Programs(Case):
    def test_the_interface(self):
        self.stands_in(module, ["need_program", "openings", "machine_of", "told"])

    def test_the_examples_of_the_document(self):
        p = ("loop", ("row", (("do", ("a",), ("z",)), ("do", ("b", "a"), ()))))
        self.assertEqual([machine_of(p, ["a", "b"], ["z"]).arcs, told(p, ["a", "b", "a"])],
                         [((0, ("a",), ("z",), 1), (1, ("a", "b"), (), 0)), [("z",), (), ()]])
        self.refuses(Choke, {"at": 2}, told, p, ["a", "b", "b"])
        self.refuses(BadProgram, {"path": (0,)}, need_program, ("row", (("stop",), ("do", ("a",), ()))))

    def test_need_program(self):
        for program in some_programs(300, 1) + LARGE:
            self.assertIsNone(wrong_path(program), program)
            self.assertIsNone(need_program(program))
        self.assertIsNone(need_program(thing=do(["a", "b", "c", "d", "e1"], ["f", "g", "h", "i", "j"])))
        # A name may stand in a burst and in its flips.
        self.assertIsNone(need_program(do(["a"], ["a"])))

    def test_what_is_no_program(self):
        for thing, path in WRONG:
            with self.subTest(thing=thing):
                self.assertEqual(wrong_path(thing), path)
                self.check_wrong(thing, path)
        for thing in anything():
            with self.subTest(thing=names(thing)):
                self.check_wrong(thing, ())
        for thing in anything(30):
            for program, path in ((("loop", thing), (0,)), (row(A, choose(B, thing), thing), (1, 1)),
                                  (("row", thing), None),
                                  (("choose", thing), None), (("do", thing, ()), None), (("do", ("a",), thing), None),
                                  ((thing,), None),
                                  (("do", (thing,), ()), None), (("do", ("a",), ("z", thing)), None), ((thing, A), ())):
                told_path = wrong_path(program) if path is None else path
                with self.subTest(program=names(program)):
                    self.assertEqual(wrong_path(program), told_path)
                    if told_path is not None:
                        self.check_wrong(program, told_path)

    def check_wrong(self, thing, path):
        self.refuses(BadProgram, {"path": path}, need_program, thing)
        self.refuses(BadProgram, {"path": path}, machine_of, thing, None, None)
        self.refuses(BadProgram, {"path": path}, told, thing, None)

    def test_programs_with_one_fault(self):
        source = sample(2)
        bad = [None, (), ("do", (), ()), ("row", ()), STOP, loop(A), ("choose", (A,)), do(["a"] * 2)]
        many = 0
        for program in some_programs(250, 3):
            for _ in range(4):
                other = self.with_other_part(program, source, source.choice(bad))
                path = wrong_path(other)
                if path is None:
                    self.assertIsNone(need_program(other))
                else:
                    self.check_wrong(other, path)
                    many += 1
        self.assertGreater(many, 500)

    def with_other_part(self, program, source, new):
        parts = parts_in(program)
        if not parts or source.randrange(4) == 0:
            return new
        at = source.randrange(len(parts))
        other = self.with_other_part(parts[at], source, new)
        return loop(other) if program[0] == "loop" else (program[0], parts[:at] + (other,) + parts[at + 1:])


class Openings(Case):
    def test_openings(self):
        told_of = [
            ((), []), ((STOP,), []), ((STOP, A), []), ((A,), [(("a",), (), ())]),
            ((AB, A, B), [(("a", "b"), ("z",), (A, B))]),
            ((row(A, B), AB), [(("a",), (), (B, AB))]), ((row(row(A), B),), [(("a",), (), (B,))]), ((row(STOP),), []),
            ((choose(A, STOP, B), AB), [(("a",), (), (AB,)), (("b",), (), (AB,))]),
            ((loop(A),), [(("a",), (), (loop(A),))]),
            ((loop(row(A, B)), AB), [(("a",), (), (B, loop(row(A, B)), AB))]),
            ((choose(A, A),), [(("a",), (), ())] * 2),
            ((choose(row(A, STOP), loop(B)), AB), [(("a",), (), (STOP, AB)), (("b",), (), (loop(B), AB))]),
            ((choose(choose(A, B), choose(B, A)),),
             [(("a",), (), ()), (("b",), (), ()), (("b",), (), ()), (("a",), (), ())]),
            ((choose(STOP, STOP), A), []), ((do(["b", "a"], ["y", "x"]),), [(("b", "a"), ("y", "x"), ())]),
        ]
        for rest, rows in told_of:
            self.assertEqual(slow_openings(rest), rows)
            self.assertEqual(openings(rest), rows)
            self.is_new(openings, rest)
        self.assertEqual(openings(rest=(B,)), [(("b",), (), ())])

    def test_openings_of_all_rests(self):
        for program in some_programs(300, 4) + LARGE:
            for rest in slow_machine(program)[0]:
                rows = slow_openings(rest)
                self.assertEqual(openings(rest), rows)
                self.assertLessEqual(len(rows), len([item for part in rest for item in all_dos(part)]))


class MachinesOfPrograms(Case):
    def check(self, program, inputs, outputs):
        """Compare machine_of with the words of [122], for names that the program may use."""
        rests, arcs = slow_machine(program)
        if len(rests) > 8 or len(arcs) > 16:
            self.refuses(LimitExceeded, {"limit": 8 if len(rests) > 8 else 16}, machine_of, program, inputs, outputs)
            return 8 if len(rests) > 8 else 16
        self.assertTrue(machine_of(program, inputs, outputs) == Machine(inputs, outputs, arcs), program)
        return 0

    def test_machine_of(self):
        seen = []
        for program in some_programs(500, 5, 10):
            seen.append(self.check(program, ["a", "b"], ["z", "y"]))
            self.check(program, ("c", "b", "a"), ("y", "x", "z"))
        for program in some_programs(100, 6, 16, ("a", "b", "c")):
            seen.append(self.check(program, ["c", "a", "b"], ["z", "y"]))
        self.assertGreater(seen.count(0), 200)
        self.assertGreater(seen.count(8), 20)

    def test_small_machines(self):
        told_of = [
            (STOP, ()), (row(STOP), ()), (choose(STOP, STOP), ()), (A, ((0, ("a",), (), 1),)),
            (loop(A), ((0, ("a",), (), 0),)),
            (row(A, B), ((0, ("a",), (), 1), (1, ("b",), (), 2))), (row(A, STOP), ((0, ("a",), (), 1),)),
            (choose(B, A), ((0, ("b",), (), 1), (0, ("a",), (), 1))),
            (choose(A, A), ((0, ("a",), (), 1), (0, ("a",), (), 1))),
            (choose(row(A, B), row(B, A)), ((0, ("a",), (), 1), (0, ("b",), (), 2), (1, ("b",), (), 3),
                                            (2, ("a",), (), 3))),
            (row(A, loop(A)), ((0, ("a",), (), 1), (1, ("a",), (), 1))),
            (row(loop(A)), ((0, ("a",), (), 1), (1, ("a",), (), 1))),
            (choose(row(A, STOP), B), ((0, ("a",), (), 1), (0, ("b",), (), 2))),
            (do(["b", "a"], ["z"]), ((0, ("a", "b"), ("z",), 1),)),
            (row(do(["a", "b"]), do(["b", "a"]), do(["a", "b"])),
             ((0, ("a", "b"), (), 1), (1, ("a", "b"), (), 2), (2, ("a", "b"), (), 3))),
        ]
        for program, arcs in told_of:
            self.assertEqual(machine_of(program, ["a", "b"], ["z"]).arcs, arcs)
            self.check(program, ["a", "b"], ["z"])
        machine = machine_of(outputs=("z",), inputs=("a",), program=A)
        self.assertEqual([machine.inputs, machine.outputs, machine.arcs], [("a",), ("z",), ((0, ("a",), (), 1),)])
        # Rests with dos that differ in the order of their names alone are different ones.
        self.assertEqual(machine_of(choose(row(A, do(["a", "b"])), row(B, do(["b", "a"]))), ["a", "b"], []).arcs,
                         ((0, ("a",), (), 1), (0, ("b",), (), 2), (1, ("a", "b"), (), 3), (2, ("a", "b"), (), 3)))

    def test_the_machine_need_not_be_sound(self):
        for program in (loop(A), choose(A, A), choose(A, AB), row(A, loop(B))):
            self.assertIsNotNone(fault(machine_of(program, ["a", "b"], ["z"])))

    def test_8_rests_and_9(self):
        self.assertEqual(len(machine_of(row(*[A] * 7), ["a"], []).arcs), 7)
        self.refuses(LimitExceeded, {"limit": 8}, machine_of, row(*[A] * 8), ["a"], [])
        self.assertEqual(self.check(row(*[A] * 7, loop(A)), ["a"], []), 0)
        self.assertEqual(self.check(row(*[A] * 7, STOP), ["a"], []), 0)
        self.assertEqual(self.check(row(row(*[A] * 7), row(A, STOP)), ["a"], []), 8)
        self.assertEqual(self.check(row(*[row(A, A)] * 8), ["a"], []), 8)
        self.assertEqual(self.check(loop(row(*[A] * 8)), ["a"], []), 0)
        self.assertEqual(self.check(loop(row(row(A, A), *[A] * 7)), ["a"], []), 8)

    def test_16_arcs_and_17(self):
        eight = choose(*[choose(*[A] * 4)] * 2)
        self.assertEqual(self.check(choose(*[choose(*[A] * 4)] * 4), ["a"], []), 0)
        self.assertEqual(self.check(row(loop(eight)), ["a"], []), 0)
        self.assertEqual(self.check(choose(loop(eight), B), ["a", "b"], []), 16)
        self.assertEqual(len(slow_machine(choose(loop(eight), B))[1]), 17)
        self.assertEqual(self.check(row(loop(choose(eight, B))), ["a", "b"], []), 16)
        # Too many rests come ahead of too many arcs.
        sixteen = [row(A, choose(*[A] * 2)), *[choose(*[A] * 4)] * 3]
        both = row(choose(A, B), choose(A, B), choose(A, B), choose(A, B), choose(A, B), choose(A, B),
                   choose(A, row(B, B)), loop(A))
        rests, arcs = slow_machine(both)
        self.assertGreater(len(rests), 8)
        self.assertEqual(self.check(both, ["a", "b"], []), 8)
        self.assertEqual(self.check(choose(*sixteen), ["a"], []), 0)
        late = row(choose(loop(eight), row(B, B, B, B, B, B, B, B)))
        self.assertGreater(min(len(slow_machine(late)[0]) - 8, len(slow_machine(late)[1]) - 16), 0)
        self.assertEqual(self.check(late, ["a", "b"], []), 8)

    def test_wrong_inputs_and_outputs(self):
        for thing in anything():
            with self.subTest(thing=names(thing)):
                if not isinstance(thing, (list, tuple)) or len(thing) not in (1, 2, 3):
                    self.refuses(InvalidMachine, {"part": "inputs", "at": -1}, machine_of, A, thing, None)
                if not isinstance(thing, (list, tuple)) or len(thing) > 3:
                    self.refuses(InvalidMachine, {"part": "outputs", "at": -1}, machine_of, A, ["a"], thing)
        for inputs, outputs, part, at in ((["a", "A"], ["a"], "inputs", 1), (["a", "a"], [], "inputs", 1),
                                          (["q"], ["q"], "outputs", 0),
                                          (["q", "r"], ["s", "r"], "outputs", 1), ([], ["a"], "inputs", -1),
                                          (["q"], [None], "outputs", 0)):
            # What is wrong there comes ahead of unknown names and of limits.
            for program in (A, row(*[A] * 8), do(["u"], ["v"])):
                self.refuses(InvalidMachine, {"part": part, "at": at}, machine_of, program, inputs, outputs)

    def test_unknown_names(self):
        told_of = [
            (do(["u"], ["v"]), "u"), (do(["a", "u", "w"], ["v"]), "u"), (do(["a"], ["v", "w"]), "v"),
            (do(["z"], ["z"]), "z"),
            (do(["a"], ["a"]), "a"), (do(["a", "z"], ["b"]), "z"), (do(["a"], ["z", "b"]), "b"),
            (row(A, do(["a"], ["v"]), do(["u"])), "v"),
            (choose(A, loop(row(B, do(["b", "u"])))), "u"), (row(row(A, do(["a"], ["v"])), do(["u"])), "v"),
            (do(["c", "b", "a"]), "c"), (row(*[A] * 7, do(["u"])), "u"), (choose(A, STOP, do(["a"], ["y"])), "y"),
            (choose(*[choose(*[A] * 4)] * 3, row(A, A, A, do(["a", "b", "c"], ["c"]))), "c"),
            (do(["b", "a", "c", "d"]), "c"),
        ]
        for program, name in told_of:
            self.refuses(UnknownName, {"name": name}, machine_of, program, ["a", "b"], ["z"])
        # A name that is never come to counts, too.
        self.refuses(UnknownName, {"name": "u"}, machine_of, choose(A, row(A, do(["u"]))), ["a"], [])

    def test_no_call_changes_what_it_is_given(self):
        program, inputs, outputs, given = choose(row(A, AB), loop(B)), ["a", "b"], ["z"], ["a", "b", "a"]
        kept = copy.deepcopy((program, inputs, outputs, given))
        machine = machine_of(program, inputs, outputs)
        self.is_new(told, program, given)
        self.assertEqual((program, inputs, outputs, given), kept)
        inputs.clear()
        self.assertEqual(machine.inputs, ("a", "b"))


class Told(Case):
    def test_told(self):
        abc = do(["c", "a", "b"], ["y", "x"])
        told_of = [
            (A, [], []), (A, ["a"], [()]), (A, ["b"], 0), (A, ["a", "a"], 1), (STOP, [], []), (STOP, ["a"], 0),
            (AB, ["b", "a"], [(), ("z",)]),
            (AB, ["b", "b"], 1), (AB, ["a", "c"], 1), (abc, ["a", "b", "c"], [(), (), ("y", "x")]),
            (abc, ["b", "c", "b"], 2),
            (row(A, STOP), ["a", "a"], 1), (loop(A), ["a"] * 50, [()] * 50), (loop(A), ["a"] * 50 + ["b"], 50),
            (row(AB, A), ["a", "b", "b"], 2),
            # The first opening whose burst has arrived counts, also if it is a part of another one.
            (choose(do(["a"], ["y"]), do(["a"], ["z"])), ["a"], [("y",)]), (choose(AB, A), ["a"], [()]),
            (choose(AB, A), ["a", "b"], 1),
            (choose(row(A, A), row(A, B)), ["a", "b"], 1),
            (choose(row(AB, A), row(do(["b", "a"], ["y"]), B)), ["b", "a", "a"], [(), ("z",), ()]),
            (choose(AB, do(["b", "c"])), ["b", "c"], [(), ()]), (choose(AB, do(["b", "c"])), ["a", "c"], 1),
            (A, [""], 0), (A, ["a b", "a"], 0),
        ]
        for program, given, answers in told_of:
            self.assertEqual(slow_told(program, given), answers)
            if isinstance(answers, int):
                self.refuses(Choke, {"at": answers}, told, program, given)
                self.refuses(Choke, {"at": answers}, told, program, tuple(given) + ("a",))
            else:
                self.assertEqual(told(program, given), answers)
                self.assertEqual(told(names=tuple(given), program=program), answers)

    def test_told_by_chance(self):
        source = sample(7)
        seen = {int: 0, list: 0}
        for program in some_programs(400, 8):
            for _ in range(5):
                given = self.some_names(program, source)
                answers = slow_told(program, given)
                seen[type(answers)] += 1
                if isinstance(answers, int):
                    self.refuses(Choke, {"at": answers}, told, program, given)
                else:
                    self.assertEqual(told(program, given), answers)
        self.assertGreater(min(seen.values()), 300)

    def some_names(self, program, source):
        """Names that mostly go on as the program does."""
        rest, given = (program,), []
        while len(given) < 12 and slow_openings(rest) and source.randrange(8):
            burst, _, rest = source.choice(slow_openings(rest))
            given += source.sample(burst, len(burst))
        return given + [source.choice("abc") for _ in range(source.choice([0, 0, 1]))]

    def test_the_machine_follows_what_is_told(self):
        source = sample(9)
        seen = {int: 0, list: 0}
        for program in some_programs(1500, 10, 6):
            rests, arcs = slow_machine(program)
            if len(rests) <= 8 and len(arcs) <= 16:
                machine = machine_of(program, ["b", "a", "c"], ["z", "y"])
                if fault(machine) is None:
                    for _ in range(4):
                        given = self.some_names(program, source)
                        seen[self.check_followed(program, machine, given)] += 1
        self.assertGreater(min(seen.values()), 50)

    def check_followed(self, program, machine, given):
        answers = slow_told(program, given)
        if isinstance(answers, int):
            self.refuses(Choke, {"at": answers}, told, program, given)
            self.refuses(Choke, {"at": answers}, follow, machine, given)
        else:
            found = told(program, given)
            self.assertEqual([sorted(flips) for flips in found], [sorted(flips) for flips in follow(machine, given)])
        return type(answers)

    def test_what_is_no_sequence_of_names(self):
        for thing in anything() + ["a", {"a": 1}, ["a", None], ("a", b"a"), [0], [["a"]], [True], iter(["a"])]:
            with self.subTest(thing=names(thing)):
                if isinstance(thing, (list, tuple)) and all(isinstance(name, str) for name in thing):
                    answers = slow_told(A, thing)
                    if isinstance(answers, int):
                        self.refuses(Choke, {"at": answers}, told, A, thing)
                    else:
                        self.assertEqual(told(A, thing), answers)
                else:
                    self.refuses(InvalidName, {"name": None}, told, A, thing)
        # What is no sequence of names comes ahead of choking.
        self.refuses(InvalidName, {"name": None}, told, STOP, ["a", "b", None])


if __name__ == "__main__":
    unittest.main()
