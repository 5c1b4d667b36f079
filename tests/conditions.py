"""The conditions of the rules in the document's own words, and what the words say of a library."""

import functools
import re

PLACES = {"unit": 0, "cuts": 1, "equality": 2, "store": 3, "case": 4}

# In the order of the document; "" for a rule that has no conditions.
WORDS = {
    "lengths add": 'Marks: unit not "clusters", and store not "composed".',
    "points add": 'Marks: store "kept".',
    "every place": 'Marks: cuts "back", or unit not "bytes". Special: cuts "back", or unit not "bytes". '
                   'Wide: cuts "back", or unit "points" or "clusters".',
    "cut length": 'Marks: unit not "bytes". Special: unit not "bytes". Wide: unit "points" or "clusters".',
    "cut and join": "",
    "part of part": "",
    "first part": 'Marks: unit not "clusters", and store "kept".',
    "last part": 'Marks: unit not "clusters", and store "kept".',
    "equal lengths": 'Marks: unit "clusters", or equality "points", or store not "kept".',
    "equal parts": 'Marks: unit "clusters", or equality "points", or store not "kept".',
    "equal reversed": 'Marks: unit "clusters", or equality "points", or store not "kept".',
    "equal sums": "",
    "equal capitals": "",
    "equal means same": 'Marks: equality "points", or store not "kept".',
    "equivalent means equal": 'Marks: equality "canonical", or store not "kept".',
    "cancel": "",
    "upper length": 'Special: case "simple", or unit "bytes".',
    "upper of sum": "",
    "lower of upper": 'Special: case "simple".',
    "reversed twice": 'Marks: unit not "clusters", and store not "composed".',
    "reversed length": 'Marks: unit not "clusters", and store not "composed".',
    "reverse of sum": 'Marks: unit not "clusters", and store not "composed".',
}


@functools.lru_cache(maxsize=None)
def is_met(library, kind, rule):
    """Whether the condition for a kind is met, by the words."""
    found = re.search(kind.capitalize() + r": ([^.]*)\.", WORDS[rule])
    if found is None:
        return True
    if ", and " in found[1]:
        return all([is_so(library, fact) for fact in found[1].split(", and ")])
    return any([is_so(library, fact) for fact in found[1].split(", or ")])


def is_so(library, fact):
    """Whether a fact like 'unit not "bytes"' or 'unit "points" or "clusters"' is so."""
    word = library[PLACES[fact.split()[0]]]
    among = word in re.findall('"([a-z]+)"', fact)
    return not among if " not " in fact else among


def rule_holds(library, kinds, rule):
    return all([is_met(library, kind, rule) for kind in kinds])


def has_condition(kind, rule):
    return kind.capitalize() + ":" in WORDS[rule]
