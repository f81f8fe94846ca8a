"""What lies inside a group: double cosets, and the classes and the cosets of a smaller group."""

from movemarks.move.products import coset_firsts, double_firsts, mask_of, turned_body


def double_meets(lattice, low, high):
    """For each double coset of the subgroups H and K at two places a triple: its least move g, how many moves
    it has, and the place of the subgroup of the moves that lie both in H and in K turned by g."""
    found = []
    for move, many in double_firsts(lattice.table, lattice.bodies[low], lattice.bodies[high]):
        turned = turned_body(lattice.table, lattice.back, lattice.bodies[high], move)
        found.append((move, many, lattice.place_at[lattice.masks[low] & mask_of(turned)]))
    return found


def body_inside(group, small):
    """The moves of a small group that lies in the group, told by their indices in the group."""
    return tuple([group.lattice.index_of[move] for move in small.moves])


def classes_inside(group, small):
    """The dict from the places, in the group, of the subgroups of a small group to their classes in that one."""
    moves = body_inside(group, small)
    found = {}
    for place, body in enumerate(small.lattice.bodies):
        # Both groups have their moves ascending, so what is led stands ascending, too.
        found[group.lattice.body_at[tuple([moves[move] for move in body])]] = small.lattice.family_at[place]
    return found


def first_moves(group, small):
    """The ascending list of the least moves, told by their indices, of the cosets of a small group in the group."""
    firsts = coset_firsts(group.lattice.table, body_inside(group, small))
    return [first for move, first in enumerate(firsts) if move == first]


def steps_of(group, small, move):
    """For the least move x of each coset of a small group the pair of the number j of another coset, with the
    least move y, and of the move s of the small group, such that the move, multiplied by x, is y s."""
    table, back = group.lattice.table, group.lattice.back
    firsts = coset_firsts(table, body_inside(group, small))
    least = first_moves(group, small)
    number_of = {first: number for number, first in enumerate(least)}
    by = group.lattice.index_of[move]
    steps = []
    for first in least:
        moved = table[by][first]
        target = firsts[moved]
        steps.append((number_of[target], group.moves[table[back[target]][moved]]))
    return steps
