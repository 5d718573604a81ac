"""The rules of the entries of a log: whether an entry follows from its parts.

Each function is passed an entry that has the form of one, the list of the
entries that are its parts, the base and the sequences. A formula is compared
with those of the parts; whether it is one is not looked at, but for atoms.
"""

from automatics.automaton import letters, letter_number, picked_letters
from automatics.compiling import spelled
from automatics.forms import are_pairs, are_sets, are_states, are_words, is_empty, is_fold
from automatics.formula import balance, is_nested, is_variable
from automatics.integers import is_integer
from automatics.steps import OVER, UNDER, letters_without
from automatics.subsets import mask_of


def follows_true(entry, parts, base, sequences):
    """Rule "true"."""
    if len(parts) > 0 or not is_empty(entry.variables) or not is_empty(entry.shown):
        return False
    return entry.formula == ("true",) and entry.rows == ((0,),) and entry.accepting == (0,)


def follows_compare(entry, parts, base, sequences):
    """Rule "compare"."""
    if len(parts) > 0 or not _is_atom(entry.formula, ("=", "<")):
        return False
    variables, factors, constant = balance(entry.formula)
    if list(entry.variables) != variables or not _are_values(entry.shown, len(entry.rows)):
        return False
    alphabet = letters(base, len(factors))
    weights = [sum([factor * digit for factor, digit in zip(factors, letter)]) for letter in alphabet]
    above = max(-sum([factor for factor in factors if factor < 0]), -constant)
    below = min(-sum([factor for factor in factors if factor > 0]), -constant)
    for value, row in zip(entry.shown, entry.rows):
        for target, weight in zip(row, weights):
            if not _leads_on(value, entry.shown[target], base, weight, (below, above)):
                return False
    sign = entry.formula[0]
    return entry.accepting == _chosen([_balances(value, constant, sign) for value in entry.shown])


def follows_look(entry, parts, base, sequences):
    """Rule "look"."""
    if len(parts) > 0 or not is_empty(entry.shown) or not _is_atom(entry.formula, ("is",)):
        return False
    _, name, index, output = entry.formula
    if not _is_plain(index) or entry.variables != index[1] or not _is_named(name, base, sequences):
        return False
    sequence = sequences[name]
    return entry.rows == sequence.rows and entry.accepting == _chosen([one == output for one in sequence.outputs])


def follows_look_both(entry, parts, base, sequences):
    """Rule "look both"."""
    if len(parts) > 0 or not _is_atom(entry.formula, ("same",)):
        return False
    _, name, index, other_name, other_index = entry.formula
    if not _is_plain(index) or not _is_plain(other_index):
        return False
    if list(entry.variables) != sorted({index[1][0], other_index[1][0]}):
        return False
    if not _is_named(name, base, sequences) or not _is_named(other_name, base, sequences):
        return False
    first, second = sequences[name], sequences[other_name]
    if not _pairs_lead(entry, base, (first.rows, index[1]), (second.rows, other_index[1])):
        return False
    return entry.accepting == _chosen([first.outputs[one] == second.outputs[other] for one, other in entry.shown])


def follows_not(entry, parts, base, sequences):
    """Rule "not"."""
    if len(parts) != 1 or not is_empty(entry.shown) or entry.formula != ("not", parts[0].formula):
        return False
    if entry.variables != parts[0].variables or entry.rows != parts[0].rows:
        return False
    return entry.accepting == _chosen([not flag for flag in _flags(parts[0])])


def follows_joined(entry, parts, base, sequences):
    """Rules "and" and "or"."""
    if len(parts) != 2 or entry.formula != (entry.rule, parts[0].formula, parts[1].formula):
        return False
    first, second = parts
    if list(entry.variables) != sorted({variable for part in parts for variable in part.variables}):
        return False
    if not _pairs_lead(entry, base, (first.rows, first.variables), (second.rows, second.variables)):
        return False
    one_ends, other_ends = _flags(first), _flags(second)
    if entry.rule == "and":
        return entry.accepting == _chosen([one_ends[one] and other_ends[other] for one, other in entry.shown])
    return entry.accepting == _chosen([one_ends[one] or other_ends[other] for one, other in entry.shown])


def follows_some(entry, parts, base, sequences):
    """Rule "some"."""
    formula = entry.formula
    if len(parts) != 1 or not isinstance(formula, tuple) or len(formula) != 3 or not is_variable(formula[1]):
        return False
    part = parts[0]
    variable = formula[1]
    if formula != ("some", variable, part.formula):
        return False
    if list(entry.variables) != [other for other in part.variables if other != variable]:
        return False
    if variable not in part.variables:
        return entry.rows == part.rows and entry.accepting == part.accepting and is_empty(entry.shown)
    groups = letters_without(base, len(part.variables), part.variables.index(variable))
    if not are_sets(entry.shown, len(entry.rows), len(part.rows)) or not _sets_lead(entry, part, groups):
        return False
    ends = mask_of(part.accepting)
    return entry.accepting == _chosen([mask_of(states) & ends > 0 for states in entry.shown])


def follows_spell(entry, parts, base, sequences):
    """Rule "spell"."""
    if len(parts) != 1 or not is_empty(entry.shown) or not _can_be_spelled(entry.formula):
        return False
    part = parts[0]
    if spelled(entry.formula) != part.formula or entry.variables != part.variables:
        return False
    return entry.rows == part.rows and entry.accepting == part.accepting


def follows_least(entry, parts, base, sequences):
    """Rule "least"."""
    if len(parts) != 1 or not isinstance(entry.shown, tuple) or len(entry.shown) != 2:
        return False
    part = parts[0]
    fold, tests = entry.shown
    if entry.formula != part.formula or entry.variables != part.variables:
        return False
    if not is_fold(fold, len(part.rows), len(entry.rows)) or not are_words(tests, base, len(entry.variables)):
        return False
    return _folds(fold, part, entry) and _all_parted(entry, base, tests)


def _is_atom(value, kinds):
    return is_nested(value, 0) and value[0] in kinds


def _is_plain(index):
    return len(index[1]) == 1 and index[2] == 0


def _is_named(name, base, sequences):
    return name in sequences and sequences[name].base == base


def _can_be_spelled(value):
    if isinstance(value, tuple) and len(value) == 3 and value[0] == "all":
        return is_variable(value[1])
    return is_nested(value, 0)


def _flags(entry):
    """Returns for each state of an entry whether it is accepting."""
    flags = [False] * len(entry.rows)
    for state in entry.accepting:
        flags[state] = True
    return flags


def _chosen(flags):
    """Returns the ascending tuple of the states with a flag."""
    return tuple([state for state, flag in enumerate(flags) if flag])


def _are_values(value, count):
    """Returns whether a value is a tuple of 0 and of values for the other states, or of what is over or under."""
    if not isinstance(value, tuple) or len(value) != count:
        return False
    if not all([is_integer(item) or isinstance(item, str) and item in (OVER, UNDER) for item in value]):
        return False
    return value[0] == 0


def _leads_on(value, target, base, weight, bounds):
    """Returns whether a letter with a weight leads from a state with one value to a state with another one."""
    if value in (OVER, UNDER):
        return target == value
    summed = base * value + weight
    if target == UNDER:
        return summed < bounds[0]
    if target == OVER:
        return summed > bounds[1]
    return target == summed


def _balances(value, constant, sign):
    if value in (OVER, UNDER):
        return value == UNDER and sign == "<"
    return value + constant == 0 if sign == "=" else value + constant < 0


def _pairs_lead(entry, base, first, second):
    """Returns whether an entry shows pairs of states of two parts, which are pairs of rows and variables."""
    if not are_pairs(entry.shown, len(entry.rows), len(first[0]), len(second[0])) or entry.shown[0] != (0, 0):
        return False
    picks = []
    for rows, variables in (first, second):
        places = [entry.variables.index(variable) for variable in variables]
        picks.append(picked_letters(base, len(entry.variables), places))
    for row, (one, other) in zip(entry.rows, entry.shown):
        for target, one_pick, other_pick in zip(row, picks[0], picks[1]):
            if entry.shown[target] != (first[0][one][one_pick], second[0][other][other_pick]):
                return False
    return True


def _sets_lead(entry, part, groups):
    """Returns whether each letter leads from a shown set to that of all states to which its group of letters leads."""
    masks = [mask_of(states) for states in entry.shown]
    if masks[0] != _reached(part.rows, groups[0]):
        return False
    columns = [[mask_of([targets[number] for number in group]) for targets in part.rows] for group in groups]
    for row, states in zip(entry.rows, entry.shown):
        for target, column in zip(row, columns):
            union = 0
            for state in states:
                union |= column[state]
            if masks[target] != union:
                return False
    return True


def _reached(rows, group):
    """Returns the mask of the states that words of the letters of a group reach from state 0."""
    found = [0]
    mask = 1
    while len(found) > 0:
        row = rows[found.pop()]
        for number in group:
            bit = 1 << row[number]
            if mask & bit == 0:
                mask |= bit
                found.append(row[number])
    return mask


def _folds(fold, part, entry):
    """Returns whether letters lead on within the fold, its accepting states are right, and each state here is used."""
    part_flags, flags = _flags(part), _flags(entry)
    for row, number, flag in zip(part.rows, fold, part_flags):
        if number is not None:
            if flag != flags[number] or tuple([fold[target] for target in row]) != entry.rows[number]:
                return False
    return len({number for number in fold if number is not None}) == len(entry.rows)


def _all_parted(entry, base, words):
    """Returns whether for each two states one of the words leads from exactly one of both to an accepting state."""
    columns = list(zip(*entry.rows))
    ended = "".join(["1" if flag else "0" for flag in _flags(entry)])
    # For each word a sign for each state; most words are a letter and a word that stands before.
    told = {(): ended}
    groups = [0] * len(entry.rows)
    count = 1
    for word in sorted(words, key=len):
        left = list(word)
        signs = ended
        if word[1:] in told:
            left = left[:1]
            signs = told[word[1:]]
        for letter in left[::-1]:
            signs = "".join([signs[target] for target in columns[letter_number(base, letter)]])
        told[word] = signs
        numbers = {}
        groups = [numbers.setdefault(pair, len(numbers)) for pair in zip(groups, signs)]
        count = len(numbers)
    return count == len(entry.rows)


CHECKS = {
    "true": follows_true,
    "compare": follows_compare,
    "look": follows_look,
    "look both": follows_look_both,
    "not": follows_not,
    "and": follows_joined,
    "or": follows_joined,
    "some": follows_some,
    "spell": follows_spell,
    "least": follows_least,
}
