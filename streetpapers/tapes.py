"""Machines that write on a tape without ends, and walks that do the same step by step."""

from streetpapers.checks import FAR, check_number, is_whole
from streetpapers.errors import BadMachine, BadTape
from streetpapers.walks import MOST_STEPS, Stroll

MOST_STATES = 5
FEWEST_SIGNS = 2
MOST_SIGNS = 6
LONGEST_TAPE = 400
RIGHT = 1
AROUND = 2


def tape_run(machine, tape, head, state, many):
    """Return (signs, head, state, done) behind many steps of a machine, or where it stops."""
    _check_run(machine, tape, head, state)
    check_number(many, 0, MOST_STEPS)
    signs = {place: sign for place, sign in enumerate(tape)}
    done = 0
    while done < many and machine[state][signs.get(head, 0)] is not None:
        signs[head], move, state = machine[state][signs.get(head, 0)]
        head += move
        done += 1
    return (tuple([(place, signs[place]) for place in sorted(signs) if signs[place] > 0]), head, state, done)


def walker_table(machine):
    """Return the table by which a walker does as the machine, with two states for each state of the machine."""
    _check_machine(machine)
    states = [[_entry_of(rule, going_left) for rule in rules] for rules in machine for going_left in (0, 1)]
    return tuple([tuple(entries) for entries in states])


def tape_stand(machine, tape, head, state):
    """Return the floor that has the signs of a tape, and the walker that stands as the machine does."""
    _check_run(machine, tape, head, state)
    return _stand(tape, head, state)


def tape_by_walker(machine, tape, head, state, many):
    """Return what tape_run does, by a walk."""
    _check_run(machine, tape, head, state)
    check_number(many, 0, MOST_STEPS)
    floor, walker = _stand(tape, head, state)
    stroll = Stroll(walker_table(machine), floor, walker)
    done = len(stroll.go(many))
    signs = [(x, stroll.painted[(x, y)]) for x, y in sorted(stroll.painted)]
    return (tuple(signs), stroll.walker[0], stroll.walker[3] // 2, done)


def _check_run(machine, tape, head, state):
    _check_machine(machine)
    if not _is_tape(tape, len(machine[0])):
        raise BadTape("a tuple of 0 to 400 signs of the machine is wanted")
    check_number(head, -FAR, FAR)
    check_number(state, 0, len(machine) - 1)


def _check_machine(value):
    if not _is_machine(value):
        raise BadMachine("1 to 5 states are wanted, with 2 to 6 rules each, as many for one as for another")


def _is_machine(value):
    if not isinstance(value, tuple) or not 1 <= len(value) <= MOST_STATES:
        return False
    for rules in value:
        if not isinstance(rules, tuple) or len(rules) != len(value[0]):
            return False
        if not all([_is_rule(rule, len(rules), len(value)) for rule in rules]):
            return False
    return FEWEST_SIGNS <= len(value[0]) <= MOST_SIGNS


def _is_rule(value, signs, states):
    if value is None:
        return True
    if not isinstance(value, tuple) or len(value) != 3:
        return False
    write, move, state = value
    if not is_whole(write, 0, signs - 1) or not is_whole(state, 0, states - 1):
        return False
    return is_whole(move, -1, 1) and move != 0


def _is_tape(value, signs):
    if not isinstance(value, tuple) or len(value) > LONGEST_TAPE:
        return False
    return all([is_whole(sign, 0, signs - 1) for sign in value])


def _stand(tape, head, state):
    floor = tuple([(x, 0, sign) for x, sign in enumerate(tape) if sign > 0])
    return (floor, (head, 0, RIGHT, 2 * state))


def _entry_of(rule, going_left):
    """Return a rule's entry for a walker that heads right, or left: it goes on in the next state's half for its way."""
    if rule is None:
        return None
    write, move, state = rule
    next_left = 0 if move == 1 else 1
    return (write, 0 if next_left == going_left else AROUND, 2 * state + next_left)
