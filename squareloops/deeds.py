"""Deeds: which strings are deeds, and what these do in a round."""

from squareloops.places import IMAGES_AT, PLACE_INDEXES, RANKS_AT

# The least and the greatest number of places behind each word.
PLACE_COUNTS = {"swap": (2, 2), "copy": (2, 2), "order": (2, 2), "turn": (3, 8)}

# The numbers that a condition compares, with their indexes in the rows of RANKS_AT.
NUMBERS = {"i": 0, "j": 1, "~i": 2, "~j": 3}
COMPARISONS = ("<", "<=", "==", "!=")


def read_deed(value):
    """A deed as a plan: the places whose entries it reads, those to which it puts them one
    behind the other, whether it orders them ahead of that, and its condition, if any. None for
    any other value."""
    words = value.split(" ") if isinstance(value, str) else [""]
    condition = None
    if len(words) > 4 and words[-4] == "if":
        condition = read_condition(words[-3:])
        if condition is None:
            return None
        words = words[:-4]
    word, *names = words
    least, most = PLACE_COUNTS.get(word, (1, 0))
    places = [PLACE_INDEXES[name] for name in names if name in PLACE_INDEXES]
    if not least <= len(names) <= most or len(set(places)) < len(names):
        return None
    starts = ends = places
    if word == "copy":
        starts, ends = places[:1], places[1:]
    elif word != "order":
        # A swap is a turn of two places.
        ends = places[1:] + places[:1]
    return tuple(starts), tuple(ends), word == "order", condition


def read_condition(words):
    """A condition, three words, as two indexes of numbers with the sign between them; None if
    it is none."""
    left, sign, right = words
    if left not in NUMBERS or sign not in COMPARISONS or right not in NUMBERS or left == right:
        return None
    return NUMBERS[left], sign, NUMBERS[right]


def holds(condition, ranks):
    """Whether a condition holds in a round whose numbers have these ranks."""
    left, sign, right = condition
    first, second = ranks[left], ranks[right]
    if sign == "<":
        return first < second
    if sign == "<=":
        return first <= second
    return (first == second) == (sign == "==")


def do_rounds(nests, rounds, shape, entries, ordered):
    """Does the deeds of nests, one nest behind the other, in rounds of images that lie in a
    shape, to the list of the entries of these images. The rounds are told for each nest by the
    indexes of the images; `ordered` gives the lesser and the greater one of two entries,
    whatever stands for them."""
    for nest, indexes in zip(nests, rounds):
        for index in indexes:
            do_plans(nest.plans, IMAGES_AT[shape][index], RANKS_AT[shape][index], entries, ordered)


def do_plans(plans, images, ranks, entries, ordered):
    """Does deeds in a round in which the places are these images."""
    for starts, ends, orders, condition in plans:
        if condition is None or holds(condition, ranks):
            read = [entries[images[place]] for place in starts]
            if orders:
                read = ordered(*read)
            for place, entry in zip(ends, read):
                entries[images[place]] = entry
