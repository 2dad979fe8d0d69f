"""The texts of programs, machines and nets."""

from burstshop.codes import function_count, is_code, state_count, variable_count
from burstshop.errors import InvalidMachine, InvalidText, InvalidTree
from burstshop.machines import DIGITS, LETTERS, Machine, is_arc, need_names, need_sound
from burstshop.nets import Net
from burstshop.programs import need_program, parts_of_program
from burstshop.scan import LineScan, Scan
from burstshop.trees import need_tree
from burstshop.treetexts import read_tree, tree_text

HEADS = {"[": "row", "(": "choose", "{": "loop"}
# What stands ahead of the parts, between them and behind them.
BRACKETS = {"row": ("[", ";", "]"), "choose": ("(", "|", ")"), "loop": ("{", "", "}")}


def write_program(program):
    """Return the text of a program."""
    need_program(program)
    return program_text(program)


def write_machine(machine):
    """Return the text of a machine."""
    rows = [["inputs", *machine.inputs], ["outputs", *machine.outputs]]
    for state, burst, flips, after in machine.arcs:
        rows.append(["arc", str(state), "+".join(burst), "+".join(flips) if flips else "-", str(after)])
    return lines_text(rows)


def write_net(net):
    """Return the text of a net."""
    rows = []
    for state, code in enumerate(net.coding):
        rows.append(["code", str(state), code] if code else ["code", str(state)])
    for function, tree in enumerate(net.trees):
        rows.append(["line", str(function), tree_text(tree)])
    return write_machine(net.machine) + lines_text(rows)


def read_program(text):
    """Return the program that a text tells."""
    scan = Scan(text)
    program = scanned_program(scan)
    scan.finish()
    need_program(program)
    return program


def read_machine(text):
    """Return the machine that a text tells."""
    scan = LineScan(text)
    machine = scanned_machine(scan)
    scan.finish()
    return machine


def read_net(text):
    """Return the net that a text tells."""
    scan = LineScan(text)
    machine = scanned_machine(scan)
    need_sound(machine)
    coding = []
    for state in range(state_count(machine)):
        coding.append(scanned_code(scan, state, coding))
    n = variable_count(machine, coding)
    trees = [scanned_line(scan, function, n) for function in range(function_count(machine, coding))]
    scan.finish()
    return Net(machine, coding, trees)


def program_text(program):
    """Return the text of a program that is known to be one."""
    if program[0] == "do":
        return "+".join(program[1]) + ">" + "+".join(program[2])
    if program[0] == "stop":
        return "."
    opening, between, closing = BRACKETS[program[0]]
    return opening + between.join([program_text(part) for part in parts_of_program(program)]) + closing


def lines_text(rows):
    """Return the text of lines, each given as the list of its words."""
    return "".join([" ".join(row) + "\n" for row in rows])


def scanned_program(scan):
    """Read a program of whatever size, so without recursion."""
    # The words of the programs whose parts are still to come, each with the parts that it has.
    opened = []
    program = None
    while program is None:
        if scan.is_at("[({"):
            opened.append((HEADS[scan.take("[({")], []))
        else:
            program = closed_programs(scan, opened, scanned_part(scan))
    return program


def closed_programs(scan, opened, program):
    """Close the programs that end with a part: return the last one if all are closed, else None."""
    while opened:
        head, parts = opened[-1]
        parts.append(program)
        _, between, closing = BRACKETS[head]
        if scan.take(between + closing) != closing:
            return None
        program = (head, program) if head == "loop" else (head, tuple(parts))
        opened.pop()
    return program


def scanned_part(scan):
    """Read a do or a stop."""
    if scan.is_at("."):
        scan.take(".")
        return ("stop",)
    burst = scanned_names(scan)
    scan.take(">")
    return ("do", burst, scanned_names(scan) if scan.is_at(LETTERS) else ())


def scanned_names(scan):
    """Read one or more names, of whatever length."""
    names = [scanned_name(scan)]
    while scan.is_at("+"):
        scan.take("+")
        names.append(scanned_name(scan))
    return tuple(names)


def scanned_name(scan):
    """Read a name of whatever length."""
    signs = [scan.take(LETTERS)]
    while scan.is_at(LETTERS) or scan.is_at(DIGITS):
        signs.append(scan.take(LETTERS + DIGITS))
    return "".join(signs)


def scanned_machine(scan):
    """Read the lines of a machine, up to the first line behind the names that begins with no arc."""
    inputs = scanned_ports(scan, "inputs", 1, ())
    outputs = scanned_ports(scan, "outputs", 0, inputs)
    arcs = []
    while scan.is_at("arc"):
        arc = told_arc(scan.take())
        if len(arcs) == 16 or not is_arc(arc, inputs, outputs):
            scan.refuse()
        arcs.append(arc)
    return Machine(inputs, outputs, arcs)


def scanned_ports(scan, word, least, taken):
    """Read the line of the inputs or of the outputs: least to 3 names that are not taken."""
    words = scan.take()
    if words[0] != word:
        scan.refuse()
    try:
        need_names(word, words[1:], least, taken)
    except InvalidMachine:
        scan.refuse()
    return words[1:]


def told_arc(words):
    """Return the arc that the words of a line tell, or None if they have not the form of one."""
    if len(words) != 5:
        return None
    _, state, burst, flips, after = words
    if not is_number(state) or not is_number(after):
        return None
    return (int(state), burst.split("+"), [] if flips == "-" else flips.split("+"), int(after))


def is_number(word):
    """Tell whether a word is one digit."""
    return len(word) == 1 and word in DIGITS


def scanned_code(scan, state, coding):
    """Read the line of a state's code, which has as many signs as the first one of the coding so far."""
    words = scan.take()
    code = "".join(words[2:])
    # A line without a code ends with the number, so a third word that is empty is wrong.
    if words[:2] != ["code", str(state)] or len(words) > 3 or words[2:] == [""]:
        scan.refuse()
    if not is_code(code, coding[0] if coding else code):
        scan.refuse()
    return code


def scanned_line(scan, function, n):
    """Read the line of a function and return its tree."""
    words = scan.take()
    if len(words) != 3 or words[:2] != ["line", str(function)]:
        scan.refuse()
    try:
        tree = read_tree(words[2])
        need_tree(tree, n)
        return tree
    except (InvalidText, InvalidTree):
        scan.refuse()
