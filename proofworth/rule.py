"""The rule: what is detached from two formulas."""

from proofworth.formulas import DENIES, IMPLIES

MOST_DETACHED = 60


# Formulas as nodes that share their parts. A node without parts is an unknown, one with one
# part is denied, one with two is an implication. What becomes the same is joined, not written
# out: written out it could be far longer than all that is detached in the end.
class Web:
    def __init__(self):
        self.parts = []
        self.joined = []

    def new_node(self, parts):
        self.parts.append(parts)
        self.joined.append(len(self.joined))
        return len(self.joined) - 1

    # Unknowns are shared within one formula alone, so those of two are unlike.
    def plant(self, formula):
        unknowns = {}
        ready = []
        for sign in reversed(formula):
            if sign == IMPLIES:
                first = ready.pop()
                ready.append(self.new_node((first, ready.pop())))
            elif sign == DENIES:
                ready.append(self.new_node((ready.pop(),)))
            else:
                if sign not in unknowns:
                    unknowns[sign] = self.new_node(())
                ready.append(unknowns[sign])
        return ready[0]

    def leader(self, node):
        while self.joined[node] != node:
            node = self.joined[node]
        return node

    def leading_parts(self, node):
        return [self.leader(part) for part in self.parts[node]]

    def join_both(self, first, second):
        pairs = [(first, second)]
        while pairs:
            pair = pairs.pop()
            one = self.leader(pair[0])
            other = self.leader(pair[1])
            if one == other:
                continue
            if not self.parts[other]:
                self.joined[other] = one
                continue
            if self.parts[one]:
                if len(self.parts[one]) != len(self.parts[other]):
                    return False
                for both in zip(self.parts[one], self.parts[other]):
                    pairs.append(both)
            self.joined[one] = other
        return True

    # How many signs each node below the root has when written out; nothing for the root
    # if an unknown would stand within what is put for it. The path holds just the nodes
    # that are begun and not counted, so meeting one of them again closes a ring.
    def counted_signs(self, root):
        signs = {}
        begun = {root: True}
        path = [root]
        while path:
            parts = self.leading_parts(path[-1])
            waiting = [part for part in parts if part not in signs]
            if not waiting:
                signs[path.pop()] = 1 + sum([signs[part] for part in parts])
            elif waiting[0] in begun:
                return signs
            else:
                begun[waiting[0]] = True
                path.append(waiting[0])
        return signs

    def written_out(self, root):
        formula = []
        numbers = {}
        ahead = [root]
        while ahead:
            node = self.leader(ahead.pop())
            parts = self.parts[node]
            if not parts:
                formula.append(numbers.setdefault(node, len(numbers)))
            else:
                formula.append(IMPLIES if len(parts) == 2 else DENIES)
            for part in reversed(parts):
                ahead.append(part)
        return tuple(formula)


def detached(first, second):
    if first[0] == DENIES:
        return None
    if first[0] != IMPLIES:
        return (0,)
    web = Web()
    root = web.plant(first)
    front = web.parts[root][0]
    behind = web.parts[root][1]
    if not web.join_both(front, web.plant(second)):
        return None
    signs = web.counted_signs(root)
    if root not in signs or signs[web.leader(behind)] > MOST_DETACHED:
        return None
    return web.written_out(behind)
