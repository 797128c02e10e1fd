"""Rounds, in which each house puts its own name ahead of all that it hears, and the maps that they tell."""

from maplost.arrows import arrows, names_at
from maplost.chains import heights
from maplost.errors import InvalidText
from maplost.founds import check_founds
from maplost.networks import carry_on
from maplost.places import map_of
from maplost.texts import is_round


def hear(network, u, v):
    """Hands the next line over from u to v; v first makes its own line if this is one of a round that is new to it."""
    waiting = network.under_way(u, v)
    # If the line cannot be handed over, nothing may be made either: `hand` tells why it cannot.
    if waiting and u not in network.stopped and v not in network.stopped:
        text = waiting[0][1]
        if is_round(text) and (network.names[v], text) not in network.log(v):
            network.make(v, text)
    return network.hand(u, v)


def spread(network):
    """Does `hear` as long as there is a road on which it can be done."""
    carry_on(network, hear)


def of_round(founds, text):
    """The founds in which each reader has of its lines those of a round."""
    check_founds(founds)
    if not is_round(text):
        raise InvalidText(text)
    return [(own, [line for line in lines if line[1] == text]) for own, lines in founds]


def round_map(founds, text):
    """The map by the lines of a round alone."""
    return map_of(of_round(founds, text))


def told_all(founds, text):
    """Whether all readers have the lines of a round of all readers, whose names are all known."""
    told = of_round(founds, text)
    owns = [own for own, lines in told]
    return None not in owns and all([(own, text) in lines for own in owns for _, lines in told])


def names_between(founds, i, j, text):
    """The names of the houses on the way between two readers, as the lines of a round tell them."""
    told = of_round(founds, text)
    pairs = arrows(told, i, j)
    names = names_at(pairs)
    before = heights(names, pairs)
    behind = heights(names, [(b, a) for a, b in pairs])
    most = max([before[name] for name in names], default=-1)
    in_longest = [name for name, line_text in told[i][1] if name in before and before[name] + behind[name] == most]
    return [[name for name in in_longest if before[name] == k][0] for k in range(most + 1)]
