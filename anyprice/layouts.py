"""Code that is laid out from nodes: all that is stored ahead of what reads it, while nothing is held in registers.

A NODE is (word, place, operands, order): its operands are pairs (leaf, what it reads): the number of a node, the word
of a variable, or an integer; its order are the places of those in registers, as they are made one behind another. A
PIECE is a node whose result is stored, or the last one, with all whose results it needs in registers.
"""


class Layout:
    """Rows of code of nodes, registers and cells being named from 0 on."""

    def __init__(self, nodes):
        self.nodes = nodes
        self.code = []
        self.cells = {}
        self.names = {}

    def put_all(self, last):
        """The code of a node and all that it needs: each piece behind those that it reads."""
        waiting = [(last, False)]
        while waiting:
            top, is_ready = waiting.pop()
            inner = self.piece_of(top)
            if is_ready:
                for number, held in inner:
                    self.put_one(number, held)
            else:
                waiting.append((top, True))
                waiting.extend([(stored, False) for stored in reversed(self.stored_for(inner))])
        return self.code

    def piece_of(self, top):
        """The list of the pairs (node, how many registers are held) of a piece, in the order in which they are made."""
        order = []
        waiting = [(top, 0)]
        while waiting:
            number, held = waiting.pop()
            order.append((number, held))
            _, _, operands, kept = self.nodes[number]
            waiting.extend([(operands[place][1], held + at) for at, place in enumerate(kept)])
        return list(reversed(order))

    def stored_for(self, piece):
        """The list of the nodes whose results a piece reads in memory."""
        return [
            inner for number, _ in piece for leaf, inner in self.nodes[number][2]
            if leaf == "mem" and not isinstance(inner, str)
        ]

    def put_one(self, number, held):
        """Put a node's row; its result goes into the register behind those that are held, or into a cell of its own."""
        word, place, operands, kept = self.nodes[number]
        told = []
        for leaf, inner in operands:
            if leaf == "mem" and not isinstance(inner, str):
                told.append(self.cells[inner])
            else:
                told.append(self.names[inner] if leaf == "reg" else inner)
        if place == "mem":
            self.cells[number] = len(self.cells)
            target = self.cells[number]
        else:
            self.names[number] = held
            target = held
        self.code.append((word, target, tuple(told)))
