"""The edges of a body, and where a point lies by it."""

from stakebodies.bodies import faces_of, pairs_round
from stakebodies.spaces import side_of


def edges_of(land):
    edges = []
    for plane, ring in faces_of(land):
        edges.extend([(min(pair), max(pair)) for pair in pairs_round(ring)])
    return sorted(set(edges))


# The greatest side decides: above one plane is outside whatever the others say, and on one
# is the rim where the point is above none.
def where_in(land, P):
    return -max([side_of(face[0], P) for face in faces_of(land)])
