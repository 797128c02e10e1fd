"""Plans: tuples of a tree, the names of its houses, the seats of readers, and a script."""

from maplost.errors import Refused
from maplost.networks import is_script, run_network
from maplost.texts import are_names, short_names
from maplost.trees import Tree
from maplost.values import are_different, is_tuple


def is_plan(value, readers):
    """Whether any value is a plan with different seats for so many readers, whether or not its script can be done."""
    if not is_tuple(value, 4):
        return False
    tree, names, seats, script = value
    if not isinstance(tree, Tree) or not are_names(names, tree.houses) or not is_script(tree, script):
        return False
    return is_tuple(seats, readers) and all([seat in tree for seat in seats]) and are_different(seats)


def network_behind(plan):
    """The network that has done the script of a plan, or None if it cannot be done."""
    tree, names, seats, script = plan
    try:
        return run_network(tree, names, script)
    except Refused:
        return None


def are_seat_names(founds, names, seats):
    """Whether each seat has the own of its reader as its name, or one that no line bears if that is None."""
    borne = [line[0] for own, lines in founds for line in lines]
    for (own, lines), seat in zip(founds, seats):
        if names[seat] != own and (own is not None or names[seat] in borne):
            return False
    return True


def fresh_name(used):
    """The first name of one or two letters that is not used."""
    return [name for name in short_names() if name not in used][0]
