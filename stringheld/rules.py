"""The twenty-two rules: what each says of its arguments."""

from stringheld.errors import BadArguments, BadRule
from stringheld.handling import are_equal, capitals, cut_at, joined
from stringheld.handling import reversed_text, small_letters, total_length
from stringheld.letters import are_equivalent
from stringheld.libraries import check_library, is_place, is_text

LONGEST_ARGUMENT = 6


def rules():
    """The tuple of the names of all rules."""
    return tuple(SHAPES)


def shape(rule):
    """The tuple of the words "text" and "place" for the arguments of a rule."""
    check_rule(rule)
    return SHAPES[rule]


def holds_for(library, rule, arguments):
    """Whether a rule holds in a library for a tuple of arguments."""
    check_library(library)
    check_rule(rule)
    if not are_arguments(library, rule, arguments):
        raise BadArguments("arguments are a tuple of short texts of the library and places, as the rule's shape says")
    decide = DECIDERS[rule]
    return decide(library, *arguments)


def check_rule(value):
    """Raise BadRule for any value but the name of a rule."""
    if not is_rule(value):
        raise BadRule("a rule is one of the names that rules() returns")


def is_rule(value):
    """Whether a value is the name of a rule."""
    return isinstance(value, str) and value in SHAPES


def are_arguments(library, rule, value):
    """Whether a value is a tuple of arguments for a rule."""
    words = SHAPES[rule]
    if not isinstance(value, tuple) or len(value) != len(words):
        return False
    if not all([is_argument(library, word, item) for word, item in zip(words, value)]):
        return False
    return are_places_within(library, words, value)


def is_argument(library, word, value):
    """Whether a value is an argument of the kind that a word of a shape names."""
    if word == "place":
        return is_place(value)
    return is_text(library, value) and len(value) <= LONGEST_ARGUMENT


def are_places_within(library, words, arguments):
    """Whether no place is greater than the length of a text.

    Places are measured by a, and those of "equal parts" by b, too: in each
    rule that has places these are all of its texts.
    """
    lengths = [total_length(library, item) for word, item in zip(words, arguments) if word == "text"]
    places = [item for word, item in zip(words, arguments) if word == "place"]
    return all([place <= longest for place in places for longest in lengths])


def cut_made(library, text, place):
    """The two parts of a cut, or None where it is refused or its place is greater than the length."""
    if place > total_length(library, text):
        return None
    parts = cut_at(library, text, place)
    return None if parts == "refused" else parts


# Each function below says of its arguments what the document says of the rule
# of its name. Sums and capitals may be longer than any argument.


def lengths_add(library, a, b):
    lengths = total_length(library, a) + total_length(library, b)
    return total_length(library, joined(library, a, b)) == lengths


def points_add(library, a, b):
    return joined(library, a, b) == a + b


def every_place(library, a, i):
    return cut_made(library, a, i) is not None


def cut_length(library, a, i):
    parts = cut_made(library, a, i)
    return parts is not None and total_length(library, parts[0]) == i


def cut_and_join(library, a, i):
    parts = cut_made(library, a, i)
    return parts is None or are_equal(library, joined(library, parts[0], parts[1]), a)


def part_of_part(library, a, i, j):
    if j > i:
        return True
    longer = cut_made(library, a, i)
    shorter = cut_made(library, a, j)
    if longer is None or shorter is None or j > total_length(library, longer[0]):
        return True
    again = cut_made(library, longer[0], j)
    return again is not None and are_equal(library, again[0], shorter[0])


def first_part(library, a, b):
    parts = cut_made(library, joined(library, a, b), total_length(library, a))
    return parts is not None and are_equal(library, parts[0], a)


def last_part(library, a, b):
    parts = cut_made(library, joined(library, a, b), total_length(library, a))
    return parts is not None and are_equal(library, parts[1], b)


def equal_lengths(library, a, b):
    return not are_equal(library, a, b) or total_length(library, a) == total_length(library, b)


def equal_parts(library, a, b, i):
    if not are_equal(library, a, b):
        return True
    one = cut_made(library, a, i)
    other = cut_made(library, b, i)
    if one is None or other is None:
        return one is None and other is None
    return are_equal(library, one[0], other[0])


def equal_reversed(library, a, b):
    return not are_equal(library, a, b) or are_equal(library, reversed_text(library, a), reversed_text(library, b))


def equal_sums(library, a, b, c):
    if not are_equal(library, a, b):
        return True
    behind = are_equal(library, joined(library, a, c), joined(library, b, c))
    before = are_equal(library, joined(library, c, a), joined(library, c, b))
    return behind and before


def equal_capitals(library, a, b):
    return not are_equal(library, a, b) or are_equal(library, capitals(library, a), capitals(library, b))


def equal_means_same(library, a, b):
    return not are_equal(library, a, b) or a == b


def equivalent_means_equal(library, a, b):
    return not are_equivalent(a, b) or are_equal(library, a, b)


def cancel(library, a, b, c):
    return not are_equal(library, joined(library, a, c), joined(library, b, c)) or are_equal(library, a, b)


def upper_length(library, a):
    return total_length(library, capitals(library, a)) == total_length(library, a)


def upper_of_sum(library, a, b):
    of_sum = capitals(library, joined(library, a, b))
    return are_equal(library, of_sum, joined(library, capitals(library, a), capitals(library, b)))


def lower_of_upper(library, a):
    return are_equal(library, small_letters(library, capitals(library, a)), small_letters(library, a))


def reversed_twice(library, a):
    return are_equal(library, reversed_text(library, reversed_text(library, a)), a)


def reversed_length(library, a):
    return total_length(library, reversed_text(library, a)) == total_length(library, a)


def reverse_of_sum(library, a, b):
    of_sum = reversed_text(library, joined(library, a, b))
    return are_equal(library, of_sum, joined(library, reversed_text(library, b), reversed_text(library, a)))


# In the order of the document, which is that of rules().
SHAPES = {
    "lengths add": ("text", "text"),
    "points add": ("text", "text"),
    "every place": ("text", "place"),
    "cut length": ("text", "place"),
    "cut and join": ("text", "place"),
    "part of part": ("text", "place", "place"),
    "first part": ("text", "text"),
    "last part": ("text", "text"),
    "equal lengths": ("text", "text"),
    "equal parts": ("text", "text", "place"),
    "equal reversed": ("text", "text"),
    "equal sums": ("text", "text", "text"),
    "equal capitals": ("text", "text"),
    "equal means same": ("text", "text"),
    "equivalent means equal": ("text", "text"),
    "cancel": ("text", "text", "text"),
    "upper length": ("text",),
    "upper of sum": ("text", "text"),
    "lower of upper": ("text",),
    "reversed twice": ("text",),
    "reversed length": ("text",),
    "reverse of sum": ("text", "text"),
}

DECIDERS = {
    "lengths add": lengths_add,
    "points add": points_add,
    "every place": every_place,
    "cut length": cut_length,
    "cut and join": cut_and_join,
    "part of part": part_of_part,
    "first part": first_part,
    "last part": last_part,
    "equal lengths": equal_lengths,
    "equal parts": equal_parts,
    "equal reversed": equal_reversed,
    "equal sums": equal_sums,
    "equal capitals": equal_capitals,
    "equal means same": equal_means_same,
    "equivalent means equal": equivalent_means_equal,
    "cancel": cancel,
    "upper length": upper_length,
    "upper of sum": upper_of_sum,
    "lower of upper": lower_of_upper,
    "reversed twice": reversed_twice,
    "reversed length": reversed_length,
    "reverse of sum": reverse_of_sum,
}
