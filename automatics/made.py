"""Sequences that are made from others."""

from automatics.errors import BadSequence
from automatics.explore import explored
from automatics.integers import in_bounds
from automatics.sequence import MOST_STATES, Sequence, check_bases_agree, least_sequence
from automatics.tables import are_outputs

GREATEST_SHIFT = 1000
GREATEST_STEP = 20
MOST_MEMBERS = 200


def mapped(sequence, table):
    """Returns the sequence with the members table[T[n]]."""
    _check_table(table, 10)
    outputs = [table[output] for output in sequence.outputs]
    return least_sequence(Sequence(sequence.base, sequence.rows, outputs))


def paired(first, second, table):
    """Returns the sequence with the members table[10 * S[n] + T[n]]."""
    check_bases_agree(first, second)
    _check_table(table, 100)
    rows, pairs = explored(
        (0, 0), lambda pair: list(zip(first.rows[pair[0]], second.rows[pair[1]])), MOST_STATES)
    outputs = [table[10 * first.outputs[one] + second.outputs[other]] for one, other in pairs]
    return least_sequence(Sequence(first.base, rows, outputs))


def shifted(sequence, count):
    """Returns the sequence with the members T[n + count]."""
    return thinned(sequence, 1, count)


def thinned(sequence, step, first):
    """Returns the sequence with the members T[step * n + first]."""
    if not in_bounds(step, 1, GREATEST_STEP):
        raise BadSequence("the step is not an integer from 1 to 20")
    if not in_bounds(first, 0, GREATEST_SHIFT):
        raise BadSequence("the first one is not an integer from 0 to 1000")
    carries = _carries(sequence.base, step, first)
    plans = [_plan(sequence.base, step, carries, digit) for digit in range(sequence.base)]
    start = tuple([sequence.state(carry) for carry in carries])
    rows, found = explored(start, lambda states: _behind(sequence.rows, states, plans), MOST_STATES)
    outputs = [sequence.outputs[states[0]] for states in found]
    return least_sequence(Sequence(sequence.base, rows, outputs))


def kernel(sequence):
    """Returns the list of the members of the kernel, as least sequences, in the order in which they are found."""
    small = least_sequence(sequence)
    # The states for T read T[k * n + r] too: then a state has the output of that to which r leads from it.
    # As all of them are reached, members are the same only if all outputs are.
    found = explored(small.outputs, lambda outputs: _ended_outputs(small.rows, outputs), MOST_MEMBERS)[1]
    return [least_sequence(Sequence(small.base, small.rows, outputs)) for outputs in found]


def _check_table(table, count):
    if not isinstance(table, list) or not are_outputs(table, count):
        raise BadSequence("the table is not a list of an output for each member that is looked up")


def _carries(base, step, first):
    """Returns the list of the carries that are needed to read T[step * n + first]; the first one comes first."""
    # No carry is greater than both the step and the first one.
    return explored(
        first, lambda carry: [(step * digit + carry) // base for digit in range(base)], step + first + 1)[1]


def _plan(base, step, carries, digit):
    """Returns for each carry, once a digit more is read, the place of the old carry and the digit that leads on."""
    places = {carry: at for at, carry in enumerate(carries)}
    plan = []
    for carry in carries:
        old, last = divmod(step * digit + carry, base)
        plan.append((places[old], last))
    return plan


def _behind(rows, states, plans):
    """Returns for each digit the states, one for each carry, to which it leads."""
    return [tuple([rows[states[place]][last] for place, last in plan]) for plan in plans]


def _ended_outputs(rows, outputs):
    """Returns for each digit the tuple of the outputs of the states to which it leads."""
    return [tuple([outputs[target] for target in column]) for column in zip(*rows)]
