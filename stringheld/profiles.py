"""Which sets of rules libraries keep, and which rule implies which."""

from stringheld.decisions import keeps
from stringheld.errors import BadRules
from stringheld.letters import check_kinds
from stringheld.libraries import all_libraries, check_library
from stringheld.rules import check_rule, is_rule, rules


def profile(library, kinds):
    """The tuple of the rules that hold in a library, in the order of rules()."""
    check_library(library)
    check_kinds(kinds)
    return tuple([rule for rule in rules() if keeps(library, kinds, rule)])


def implies(kinds, one, other):
    """Whether every library in which one rule holds keeps the other."""
    return parting(kinds, one, other) is None


def parting(kinds, one, other):
    """The least library in which one rule holds and the other does not, or None."""
    check_kinds(kinds)
    check_rule(one)
    check_rule(other)
    # The libraries are ascending, so the first one is the least.
    for library in all_libraries():
        if keeps(library, kinds, one) and not keeps(library, kinds, other):
            return library
    return None


def libraries_with(kinds, wanted):
    """The ascending tuple of the libraries in which all wanted rules hold."""
    check_kinds(kinds)
    check_rules(wanted)
    return tuple([library for library in all_libraries() if keeps_all(library, kinds, wanted)])


def most_rules(kinds):
    """The ascending tuple of the libraries in which the most rules hold."""
    check_kinds(kinds)
    many = [len(profile(library, kinds)) for library in all_libraries()]
    most = max(many)
    return tuple([library for library, count in zip(all_libraries(), many) if count == most])


def check_rules(value):
    """Raise BadRules for any value but a tuple of different rules."""
    if not isinstance(value, tuple) or not all([is_rule(item) for item in value]) or len(set(value)) < len(value):
        raise BadRules("wanted rules are a tuple of different rules")


def keeps_all(library, kinds, wanted):
    """Whether all wanted rules hold in a library."""
    return all([keeps(library, kinds, rule) for rule in wanted])
