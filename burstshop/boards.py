"""Boards: nets that are played move by move, with every delay that is possible."""

from burstshop.codes import steps
from burstshop.errors import NotAMove
from burstshop.likeness import arc_with
from burstshop.lines import Lines, fullest_order, with_sign
from burstshop.machines import arcs_met, entries, fed, in_order, is_input
from burstshop.nets import first_signals, judged
from burstshop.signs import is_integer


class Board:
    """A net in play: the signs of its variables, what its leaves have seen of them, and where its machine stands."""

    def __init__(self, net):
        self._net = net
        self._entered = entries(net.machine)
        self._signals = first_signals(net)
        self._lines = Lines(net.trees, self._signals)
        self._standing = (0, ())
        # The arc whose burst is whole, or None; then whether the board has looked, which wires have still to
        # turn, and which lines have shown their new sign.
        self._arc = None
        self._looked = False
        self._waiting = ()
        self._renewed = ()
        self._done = []
        self._wrong = None
        self._judge()

    def moves(self):
        """List the possible moves."""
        rows = [("input", name) for name in self._net.machine.inputs if self._takes(name)]
        rows.extend([("leaf", line, path) for line, path in self._lines.late_leaves(self._signals)])
        rows.extend([("wire", wire) for wire in self._waiting])
        return rows

    def move(self, thing):
        """Do a possible move."""
        if not self._is_move(thing):
            raise NotAMove()
        if thing[0] == "leaf":
            self._lines.see(self._signals, thing[1], thing[2])
        elif thing[0] == "input":
            self._turn_input(thing[1])
        else:
            self._turn_wire(thing[1])
        self._done.append(thing)
        if self._arc is not None and not self._waiting and not self._lines.has_late(self._signals):
            self._look()
        self._judge()

    def standing(self):
        """Return the state and the inputs that have turned since it was entered."""
        return self._standing

    def signals(self):
        """Return the signs of the inputs and of the wires."""
        return self._signals

    def shown(self):
        """Return the signs that the lines show."""
        return self._lines.signs

    def is_resting(self):
        """Tell whether nothing has turned since the board was made or came to rest."""
        return self._standing[1] == ()

    def done(self):
        """List the moves so far."""
        return list(self._done)

    def twin(self):
        """Return a new board in the same position."""
        other = Board(self._net)
        other._signals = self._signals
        other._lines.take_over(self._lines)
        other._standing = self._standing
        other._arc = self._arc
        other._looked = self._looked
        other._waiting = self._waiting
        other._renewed = self._renewed
        other._done = list(self._done)
        other._wrong = self._wrong
        return other

    def wrong(self):
        """Return the number of moves behind which the board first went wrong, or None."""
        return self._wrong

    def _takes(self, name):
        """Tell whether an input of the machine may turn."""
        return self._arc is None and fed(self._net.machine, self._standing, name) is not None

    def _is_move(self, thing):
        """Tell whether thing is a possible move."""
        if not isinstance(thing, tuple) or len(thing) not in (2, 3):
            return False
        if len(thing) == 3:
            return thing[0] == "leaf" and self._lines.is_late(self._signals, thing[1], thing[2])
        if thing[0] == "input":
            return is_input(self._net.machine, thing[1]) and self._takes(thing[1])
        return thing[0] == "wire" and is_integer(thing[1]) and thing[1] in self._waiting

    def _turn_input(self, name):
        """Let an input turn."""
        machine = self._net.machine
        state, arrived = self._standing
        now = in_order((*arrived, name), machine.inputs)
        self._standing = (state, now)
        self._arc = arc_with(machine, state, now)
        self._turn(machine.inputs.index(name))

    def _turn_wire(self, wire):
        """Let a wire turn."""
        self._waiting = tuple([other for other in self._waiting if other != wire])
        self._turn(len(self._net.machine.inputs) + wire)

    def _turn(self, variable):
        """Exchange the sign of a variable."""
        sign = "0" if self._signals[variable] == "1" else "1"
        self._signals = with_sign(self._signals, variable, sign)

    def _look(self):
        """Find the wires that are to turn, and come to rest if there are none."""
        wires = self._signals[len(self._net.machine.inputs):]
        lines = self._lines.signs[len(self._net.machine.outputs):]
        self._looked = True
        self._waiting = tuple([at for at, (wire, line) in enumerate(zip(wires, lines)) if wire != line])
        if not self._waiting:
            self._standing = (self._arc[3], ())
            self._arc = None
            self._looked = False
            self._renewed = ()

    def _judge(self):
        """Note the first time that a line shows a sign that it may not show."""
        if not self._is_right() and self._wrong is None:
            self._wrong = len(self._done)
        if self._arc is not None:
            new = self._entry(self._arc[3])
            signs = self._lines.signs
            self._renewed = tuple([at for at, sign in enumerate(signs) if sign == new[at] or at in self._renewed])

    def _is_right(self):
        """Tell whether each line shows a sign that it may show."""
        old = self._entry(self._standing[0])
        if self._arc is None:
            # When the board comes to rest each wire is as its line, so this tells of the wires, too.
            return self._lines.signs == old
        new = self._entry(self._arc[3])
        if self._looked:
            return self._lines.signs == new
        for line, sign in enumerate(self._lines.signs):
            if sign != new[line] and (sign != old[line] or line in self._renewed):
                return False
        return True

    def _entry(self, state):
        """Return the signs of the lines with which a state is entered."""
        return self._entered[state][1] + self._net.coding[state]


def bad_row(net):
    """List moves with the last of which a new board of the net goes wrong, or return None if it never does."""
    found = judged(net)
    if found is None:
        return None
    board = Board(net)
    if found[0] != "begin":
        machine = net.machine
        for arc in arcs_to(machine, machine.arcs[found[1]][0]):
            go_through(board, machine.arcs[arc][1])
        go_wrong(board, net, found)
    return board.done()


def arcs_to(machine, state):
    """List the indexes of the arcs by which a state is met first, from the beginning on."""
    rows = {0: []}
    for at in arcs_met(machine):
        own, _, _, after = machine.arcs[at]
        if after not in rows:
            rows[after] = [*rows[own], at]
    return rows[state]


def push(board, moves):
    """Do moves up to the one with which the board goes wrong."""
    for thing in moves:
        if board.wrong() is None:
            board.move(thing)


def go_through(board, burst):
    """Let a burst come and the board come to rest."""
    push(board, [("input", name) for name in burst])
    while board.wrong() is None and not board.is_resting():
        push(board, board.moves())


def go_wrong(board, net, found):
    """Bring about the fault of an arc that judged found, on a board that rests in the arc's state."""
    kind, arc, step, function = found[:4]
    changes = steps(net.machine, net.coding, arc)
    if step == 1:
        turn_to(board, net.machine, changes[0][1])
        see_all(board)
    end = changes[step][1]
    if kind == "value":
        turn_to(board, net.machine, found[4])
        see_all(board)
    else:
        turn_to(board, net.machine, end)
        push(board, [("leaf", function, path) for path in fullest_order(changes[step], net.trees[function])])


def turn_to(board, machine, point):
    """Let the inputs and the wires turn that are not as in a point."""
    many = len(machine.inputs)
    moves = []
    for at, (sign, other) in enumerate(zip(board.signals(), point)):
        if sign != other:
            moves.append(("input", machine.inputs[at]) if at < many else ("wire", at - many))
    push(board, moves)


def see_all(board):
    """Let all late leaves see."""
    push(board, [thing for thing in board.moves() if thing[0] == "leaf"])
