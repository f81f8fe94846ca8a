"""Groups told by their tables of products: subgroups, classes, and maps that keep products.

Here a move is told by its index in the ascending tuple of all moves of its group, so the
unit is 0; a subgroup is the ascending tuple of such indices, here called a body.
"""

from movemarks.move.moves import followed


def words_of(places, makers, most):
    """The dict from the moves that the makers make to their words; None if there are more than most."""
    unit = tuple(range(places))
    words = {unit: ()}
    found = [unit]
    at = 0
    while at < len(found):
        move = found[at]
        at += 1
        for index, maker in enumerate(makers):
            longer = followed(move, maker)
            if longer not in words:
                if len(found) == most:
                    return None
                words[longer] = words[move] + (index,)
                found.append(longer)
    return words


def _table_row(start, plan):
    row = [start for _ in range(len(plan) + 1)]
    for column, shorter, step in plan:
        row[column] = step[row[shorter]]
    return tuple(row)


def table_of(moves, makers, words):
    """The table of all products: at the row a and the column b stands a b."""
    index_of = {move: index for index, move in enumerate(moves)}
    index_by = {words[move]: index_of[move] for move in words}
    steps = [[index_of[followed(move, maker)] for move in moves] for maker in makers]
    # A word without its last member is the word of a move, too, and stands ahead.
    plan = [(index_by[word], index_by[word[:-1]], steps[word[-1]]) for word in index_by if len(word) > 0]
    return tuple([_table_row(start, plan) for start in range(len(moves))])


def undoing_of(table):
    """For each move the one that undoes it."""
    return tuple([row.index(0) for row in table])


def body_with(table, body, makers, extra):
    """The body that a body, made by the makers, makes together with one more move."""
    inside = [False for _ in table]
    for move in body:
        inside[move] = True
    found = list(body)
    firsts = [0]
    at = 0
    while at < len(firsts):
        first = firsts[at]
        at += 1
        for maker in makers + (extra,):
            moved = table[maker][first]
            if not inside[moved]:
                firsts.append(moved)
                for move in body:
                    inside[table[moved][move]] = True
                    found.append(table[moved][move])
    return tuple(sorted(found))


def turned_body(table, back, body, by):
    """The body, turned by a move."""
    return tuple(sorted([table[table[by][move]][back[by]] for move in body]))


def _family_of(table, back, body, makers):
    """The list of all bodies into which the moves that the makers make turn a body."""
    found = {body: True}
    family = [body]
    at = 0
    while at < len(family):
        for maker in makers:
            turned = turned_body(table, back, family[at], maker)
            if turned not in found:
                found[turned] = True
                family.append(turned)
        at += 1
    return family


def powers_of(table, move):
    """The list of the powers of a move, from the unit on."""
    powers = [0]
    while table[powers[-1]][move] != 0:
        powers.append(table[powers[-1]][move])
    return powers


def orders_of(table):
    """The orders of all moves."""
    return tuple([len(powers_of(table, move)) for move in range(len(table))])


def _is_prime_power(number):
    divisor = 2
    while number % divisor != 0:
        divisor += 1
    while number % divisor == 0:
        number = number // divisor
    return number == 1


def _single_makers(table):
    """One move for each subgroup that one move of an order above 1, a power of a prime, makes."""
    bodies = {}
    for move in range(1, len(table)):
        powers = powers_of(table, move)
        if _is_prime_power(len(powers)):
            bodies.setdefault(tuple(sorted(powers)), move)
    return [bodies[body] for body in bodies]


def families_of(table, makers, most):
    """The list of all classes of bodies, each a list; None if there are more than most bodies."""
    back = undoing_of(table)
    singles = _single_makers(table)
    found = {(0,): True}
    families = [[(0,)]]
    firsts = [((0,), ())]
    at = 0
    # Each subgroup is made by one that is maximal in it, and by a move of an order that
    # is a power of a prime; it suffices to do this with one subgroup of each class.
    while at < len(firsts):
        body, body_makers = firsts[at]
        at += 1
        inside = {move: True for move in body}
        for single in singles:
            if single not in inside:
                larger = body_with(table, body, body_makers, single)
                if larger not in found:
                    family = _family_of(table, back, larger, makers)
                    families.append(family)
                    firsts.append((larger, body_makers + (single,)))
                    for turned in family:
                        found[turned] = True
                    if len(found) > most:
                        return None
    return families


def coset_firsts(table, body):
    """For each move the least move of the coset of the body in which it lies."""
    firsts = [None for _ in table]
    for move in range(len(table)):
        if firsts[move] is None:
            for member in body:
                firsts[table[move][member]] = move
    return firsts


def double_firsts(table, body, other):
    """For each double coset of two bodies, ascending, the pair of its least move and of how many it has."""
    firsts = coset_firsts(table, other)
    seen = {}
    doubles = []
    for move, first in enumerate(firsts):
        if first not in seen:
            many = 0
            for low in body:
                moved = firsts[table[low][move]]
                if moved not in seen:
                    seen[moved] = True
                    many += 1
            doubles.append((move, many * len(other)))
    return doubles


def mask_of(body):
    """The integer that has the bits whose places are the moves of the body."""
    mask = 0
    for move in body:
        mask = mask | (1 << move)
    return mask


def in_order(bodies):
    """The list of the bodies by their sizes, and those of one size as tuples."""
    return sorted(bodies, key=lambda body: (len(body), body))


class Lattice:
    """The bodies of a group in their order, their classes, and the table of the products."""

    def __init__(self, moves, makers, table, families):
        self.index_of = {move: index for index, move in enumerate(moves)}
        self.maker_indices = tuple([self.index_of[maker] for maker in makers])
        self.table = table
        self.back = undoing_of(table)
        self.bodies = tuple(in_order([body for family in families for body in family]))
        self.masks = tuple([mask_of(body) for body in self.bodies])
        self.body_at = {body: at for at, body in enumerate(self.bodies)}
        self.place_at = {mask: at for at, mask in enumerate(self.masks)}
        members = [tuple(sorted([self.body_at[body] for body in family])) for family in families]
        self.families = tuple(sorted(members))
        self.family_at = {at: index for index, family in enumerate(self.families) for at in family}

    def least_place(self, mask):
        """The place of the least body that has all moves of a mask."""
        for place, larger in enumerate(self.masks):
            if mask & larger == mask:
                return place
        return None

    def first_bodies(self):
        """The list of the first bodies of all classes."""
        return [self.bodies[family[0]] for family in self.families]


def partners_of(table, makers, other, images):
    """The map that leads the makers to their images and keeps products, on what the makers make.

    A dict of indices; None if there is none, or it leads two moves to one. The images are
    moves of the group whose table is the other one.
    """
    led = {0: 0}
    taken = {0: True}
    found = [0]
    at = 0
    while at < len(found):
        move = found[at]
        at += 1
        for maker, image in zip(makers, images):
            longer = table[move][maker]
            partner = other[led[move]][image]
            if longer not in led:
                if partner in taken:
                    return None
                led[longer] = partner
                taken[partner] = True
                found.append(longer)
            elif led[longer] != partner:
                return None
    return led


def _colour_marks(table, colours):
    """For each move its colour, and those of all moves with those of its products with them."""
    marks = []
    for move, row in enumerate(table):
        pairs = sorted([(colours[other], colours[longer]) for other, longer in enumerate(row)])
        marks.append((colours[move], tuple(pairs)))
    return marks


def colours_of(table, other):
    """Colours of the moves of two groups, two tuples of integers.

    A map that keeps products leads each move to one of its colour.
    """
    colours, other_colours = orders_of(table), orders_of(other)
    many = 0
    while len(set(colours)) > many:
        many = len(set(colours))
        marks, other_marks = _colour_marks(table, colours), _colour_marks(other, other_colours)
        numbers = {mark: number for number, mark in enumerate(sorted(set(marks) | set(other_marks)))}
        colours = tuple([numbers[mark] for mark in marks])
        other_colours = tuple([numbers[mark] for mark in other_marks])
    return colours, other_colours


def _most_maker(table, body, makers):
    """The move that makes most with a body, made by the makers, and what they make."""
    most, maker = body, 0
    for move in range(len(table)):
        larger = body_with(table, body, makers, move)
        if len(larger) > len(most):
            most, maker = larger, move
    return most, maker


def few_makers(table):
    """A tuple of moves that make the group, each taken so that it makes most with those ahead."""
    makers = ()
    body = (0,)
    while len(body) < len(table):
        body, maker = _most_maker(table, body, makers)
        makers = makers + (maker,)
    return makers


def _first_turned(table, moves):
    """Of the moves those that are the least ones among what the group turns them into."""
    back = undoing_of(table)
    return [move for move in moves
            if move == min([table[table[by][move]][back[by]] for by in range(len(table))])]


def _images_on(table, makers, other, choices, images):
    """The images, and further ones of the choices, such that a map keeps products; or None."""
    if partners_of(table, makers[:len(images)], other, images) is None:
        return None
    if len(images) == len(makers):
        return images
    for choice in choices[len(images)]:
        found = _images_on(table, makers, other, choices, images + (choice,))
        if found is not None:
            return found
    return None


def same_map(table, other):
    """A dict that leads the moves of one group onto those of the other one and keeps products, or None."""
    if len(table) != len(other):
        return None
    colours, other_colours = colours_of(table, other)
    if sorted(colours) != sorted(other_colours):
        return None
    makers = few_makers(table)
    choices = [[move for move, colour in enumerate(other_colours) if colour == colours[maker]]
               for maker in makers]
    if len(choices) > 0:
        # Turned images are images, too, so those of the first maker need not all be tried.
        choices[0] = _first_turned(other, choices[0])
    images = _images_on(table, makers, other, choices, ())
    if images is None:
        return None
    return partners_of(table, makers, other, images)
