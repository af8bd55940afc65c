"""Standings: one way in which places stand in time, ties allowed ([1.1] to [1.6])."""

from earliestlots.errors import BadLayers, BadPlaces, BadStanding

MOST_PLACES = 7


def is_whole(thing, low=None, high=None):
    """Whether this is an int, no bool, that is not below low and not above high."""
    if isinstance(thing, bool) or not isinstance(thing, int):
        return False
    return (low is None or thing >= low) and (high is None or thing <= high)


def check_standing(ranks, places=None):
    """The ranks as a tuple; BadStanding if they are no standing of so many places."""
    if not isinstance(ranks, (list, tuple)) or len(ranks) > MOST_PLACES:
        raise BadStanding(-1)
    if places is not None and len(ranks) != places:
        raise BadStanding(-1)
    for index, rank in enumerate(ranks):
        if not is_whole(rank, 0):
            raise BadStanding(index)
    if len(set(ranks)) != max(ranks, default=-1) + 1:
        raise BadStanding(-1)
    return tuple(ranks)


def is_standing(thing, places):
    """Whether this is a standing of so many places."""
    try:
        check_standing(thing, places)
    except BadStanding:
        return False
    return True


def is_among(thing, standings):
    """Whether this is a list or tuple with the ranks of one of the standings."""
    if not isinstance(thing, (list, tuple)):
        return False
    # In Python True and 1.0 equal 1, but neither of them is a rank.
    return all([is_whole(rank) for rank in thing]) and tuple(thing) in standings


def standing_of(keys):
    """The standing in which a lesser key has a lesser rank and equal keys are tied."""
    ranks = {key: rank for rank, key in enumerate(sorted(set(keys)))}
    return tuple([ranks[key] for key in keys])


def check_places(places, many):
    """The places as a tuple; BadPlaces if they are no unlike numbers below many."""
    if not isinstance(places, (list, tuple)):
        raise BadPlaces(-1)
    for index, place in enumerate(places):
        if not is_whole(place, 0, many - 1) or place in places[:index]:
            raise BadPlaces(index)
    return tuple(places)


def cut_down(standing, places):
    """The standing of the named places, in the order in which they are named."""
    ranks = check_standing(standing)
    return standing_of([ranks[place] for place in check_places(places, len(ranks))])


def ranks_number(standing):
    """How many ranks there are."""
    return max(check_standing(standing), default=-1) + 1


def turned_standing(standing):
    """The standing with time turned round."""
    greatest = ranks_number(standing) - 1
    return tuple([greatest - rank for rank in standing])


def front_of(standing):
    """The places of rank 0, ascending."""
    return tuple([place for place, rank in enumerate(check_standing(standing)) if rank == 0])


def layers_of(standing):
    """For each rank its places, ascending."""
    layers = [[] for _ in range(ranks_number(standing))]
    for place, rank in enumerate(standing):
        layers[rank].append(place)
    return tuple([tuple(layer) for layer in layers])


def standing_of_layers(layers):
    """The standing in which the places of each layer have its number as their rank."""
    if not isinstance(layers, (list, tuple)):
        raise BadLayers(-1)
    ranks = {}
    for index, layer in enumerate(layers):
        if not isinstance(layer, (list, tuple)) or len(layer) == 0:
            raise BadLayers(index)
        for place in layer:
            if not is_whole(place, 0, MOST_PLACES - 1) or place in ranks:
                raise BadLayers(index)
            ranks[place] = index
    if sorted(ranks) != list(range(len(ranks))):
        raise BadLayers(-1)
    return tuple([ranks[place] for place in range(len(ranks))])
