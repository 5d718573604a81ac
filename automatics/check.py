"""The checker of logs, which follows their steps and finds nothing itself."""

from automatics.forms import Entry, has_form
from automatics.formula import free, is_nested
from automatics.rulings import CHECKS

DEEPEST_CLAIM = 100


def fault(log, formula, base, sequences):
    """Returns None if a value is a log that claims a formula at its end, otherwise where it is wrong."""
    if not isinstance(log, tuple):
        return -1
    entries = []
    for at, value in enumerate(log):
        if not has_form(value, at, base):
            return at
        entry = Entry(value)
        if not _is_right(entry, [entries[part] for part in entry.parts], base, sequences):
            return at
        entries.append(entry)
    if len(entries) == 0 or not _claims(entries[-1], formula):
        return len(entries)
    return None


def _is_right(entry, parts, base, sequences):
    if entry.rule not in CHECKS:
        return False
    follows = CHECKS[entry.rule]
    # That a formula is one is looked at last: then it is known to be no greater than those of the parts.
    return follows(entry, parts, base, sequences) and is_nested(entry.formula, DEEPEST_CLAIM)


def _claims(entry, formula):
    return entry.formula == formula and list(entry.variables) == free(formula)
