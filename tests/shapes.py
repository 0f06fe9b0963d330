"""Shapes that the tests share, and a slow second reckoning that shares nothing with the program."""

from fractions import Fraction
from itertools import combinations
from math import gcd

HUGE = 10 ** 99
HUNDRED_FIGURES = 10 ** 100 - 1

TETRA = [(0, 0, 0), (0, 0, 1), (0, 1, 0), (1, 0, 0)]
BOX = [(x, y, z) for x in (0, 1) for y in (0, 1) for z in (0, 1)]
BIG_BOX = [(x, y, z) for x in (-3, 7) for y in (2, 4) for z in (-5, 0)]
PYRAMID = [(-2, -2, 0), (-2, 2, 0), (0, 0, 3), (2, -2, 0), (2, 2, 0)]
PRISM = [(0, 0, 0), (0, 0, 5), (1, 3, 0), (1, 3, 5), (4, 1, 0), (4, 1, 5)]
OCTAHEDRON = [(-1, 0, 0), (0, -1, 0), (0, 0, -1), (0, 0, 1), (0, 1, 0), (1, 0, 0)]
# Six corners about the rim of a face that stands aslant.
HEXAGON_TOWER = sorted(
    [(1, -1, 0), (1, 0, -1), (0, 1, -1), (-1, 1, 0), (-1, 0, 1), (0, -1, 1), (4, 5, 6)]
)
CURVE_FORTY = sorted((t, t * t, t ** 3) for t in range(-20, 20))
BOWL_FORTY = sorted((x, y, x * x + y * y) for x in range(-2, 3) for y in range(-4, 4))
# Forty corners of which twenty lie on each of two faces.
DRUM_FORTY = sorted((t, t * t, z) for t in range(-10, 10) for z in (0, 9))

BODIES = {
    "tetra": TETRA,
    "box": BOX,
    "big box": BIG_BOX,
    "pyramid": PYRAMID,
    "prism": PRISM,
    "octahedron": OCTAHEDRON,
    "hexagon tower": HEXAGON_TOWER,
    "curve": CURVE_FORTY,
    "bowl": BOWL_FORTY,
    "drum": DRUM_FORTY,
}

ON_ONE_POINT = [[(0, 0, 0)], [(4, -5, 6)], [(1, 2, 3)] * 2, [(HUNDRED_FIGURES, -HUNDRED_FIGURES, 7)] * 40]
ON_A_LINE = [
    [(0, 0, 0), (0, 0, 1)],
    [(1, 2, 3), (1, 2, 3), (-1, -2, -3)],
    [(k, 3 - 2 * k, 5 * k) for k in range(-6, 6)],
    [(k * HUGE, 1 - k, HUNDRED_FIGURES - k) for k in range(-4, 5)],
    [(0, k, 0) for k in (7, 7, 2, 7, 9)],
]
ON_A_PLANE = [
    [(0, 0, 0), (0, 0, 1), (0, 1, 0)],
    [(5, 5, 5), (5, 5, 5), (5, 6, 5), (5, 7, 5), (5, 7, 6)],
    [(x, y, 4 - 3 * x + 2 * y) for x in range(-2, 3) for y in range(3)],
    [(x * HUGE, y, x + HUNDRED_FIGURES * y) for x in range(3) for y in range(3)],
    [(k, k, k) for k in range(9)] + [(1, 2, 3)],
]
WITHOUT_ROOM = ON_ONE_POINT + ON_A_LINE + ON_A_PLANE


def slanted(P):
    """Its numbers are those of a matrix with determinant 1."""
    x, y, z = P
    return (x + 3 * y - 7 * z, 2 * x + 7 * y - 12 * z, 5 * x + 15 * y - 34 * z)


def mirrored(P):
    return (P[1], P[0], P[2])


def turned_back(P):
    return (-P[0], -P[1], -P[2])


def far_off(P):
    return (P[0] + HUGE, P[1] - 3 * HUGE, P[2] + 7 * HUGE - 1)


def sheared(P):
    """Slants so strongly that the numbers have some hundred figures."""
    x, y, z = P
    return (x + 10 ** 90 * y, y + 10 ** 60 * z, z)


MOVES = {
    "as it is": lambda P: P,
    "slanted": slanted,
    "mirrored": mirrored,
    "turned back": turned_back,
    "far off": far_off,
    "slanted, far off": lambda P: far_off(slanted(P)),
    "mirrored, sheared": lambda P: sheared(mirrored(P)),
}


# Moves as the program is handed them: some with the product 1, some with -1.
MOVE_TUPLES = {
    "leaves all": (1, 0, 0, 0, 1, 0, 0, 0, 1, 0, 0, 0),
    "far off": (1, 0, 0, 0, 1, 0, 0, 0, 1, HUGE, -3 * HUGE, 7 * HUGE - 1),
    "slanted": (1, 3, -7, 2, 7, -12, 5, 15, -34, 0, 0, 0),
    "slanted, put off": (1, 3, -7, 2, 7, -12, 5, 15, -34, 8, -9, 4),
    "mirrored": (0, 1, 0, 1, 0, 0, 0, 0, 1, 0, 0, 0),
    "mirrored, put off": (0, 1, 0, 1, 0, 0, 0, 0, 1, -3, 1, 2),
    "turned back": (-1, 0, 0, 0, -1, 0, 0, 0, -1, 0, 0, 0),
    "turned round": (0, 1, 0, 0, 0, 1, 1, 0, 0, 0, 0, 5),
    "slanted mirror": (2, 1, 0, 1, 1, 0, 4, -3, -1, 6, 0, -1),
    "sheared": (1, 10 ** 90, 0, 0, 1, 10 ** 60, 0, 0, 1, 5, -6, 7),
    "sheared mirror": (0, 1, 10 ** 80 + 1, 1, 10 ** 70 - 3, 0, 0, 0, 1, HUGE, 1, -HUGE),
}


def moved_bodies():
    """Every body under every move, as tuples of a label and its corners in order."""
    for name, body in BODIES.items():
        for how, move in MOVES.items():
            yield f"{name} {how}", sorted(move(P) for P in body)


class Dice:
    """Numbers that look thrown, yet are the same in every run."""

    def __init__(self, seed):
        self.state = seed

    def below(self, bound):
        self.state = (self.state * 6364136223846793005 + 1442695040888963407) % 2 ** 64
        return (self.state >> 33) % bound

    def point(self, bound):
        return tuple(self.below(bound) for _ in range(3))

    def shuffled(self, things):
        rest = list(things)
        told = []
        while rest:
            told.append(rest.pop(self.below(len(rest))))
        return told


def thrown_lists(count, most, bound):
    dice = Dice(count + 1000 * most + 1000000 * bound)
    return [[dice.point(bound) for _ in range(4 + dice.below(most - 3))] for _ in range(count)]


# --- the second reckoning ---


def minus(Q, P):
    return tuple(q - p for p, q in zip(P, Q))


def dot(u, v):
    return sum(a * b for a, b in zip(u, v))


def determinant(u, v, w):
    """By the rule of Sarrus, not by way of a cross."""
    return (
        u[0] * v[1] * w[2] + u[1] * v[2] * w[0] + u[2] * v[0] * w[1]
        - u[2] * v[1] * w[0] - u[1] * v[0] * w[2] - u[0] * v[2] * w[1]
    )


def slow_cross(u, v):
    """Each number of a cross is a determinant with one of the three unit ways."""
    return tuple(determinant(u, v, e) for e in ((1, 0, 0), (0, 1, 0), (0, 0, 1)))


def slow_plane(P, Q, R):
    """The plane through three points, None where they are on a line."""
    cross = slow_cross(minus(Q, P), minus(R, P))
    divisor = gcd(*cross)
    if divisor == 0:
        return None
    upright = tuple(n // divisor for n in cross)
    return upright + (dot(upright, P),)


def slow_side(plane, P):
    height = dot(plane[:3], P) - plane[3]
    return (height > 0) - (height < 0)


def slow_planes(points):
    """All planes of faces: of every three points, both ways round."""
    found = set()
    for P, Q, R in combinations(sorted(set(points)), 3):
        for plane in (slow_plane(P, Q, R), slow_plane(P, R, Q)):
            if plane is None or plane in found:
                continue
            if all(slow_side(plane, S) <= 0 for S in points):
                found.add(plane)
    return sorted(found)


def slow_ring(plane, points):
    """From the least point on, each time to the one farthest off that has all others to the left."""
    touched = sorted({P for P in points if slow_side(plane, P) == 0})
    ring = [touched[0]]
    while True:
        here = ring[-1]
        ahead = [
            Q for Q in touched
            if Q != here and all(dot(plane[:3], slow_cross(minus(Q, here), minus(R, here))) >= 0 for R in touched)
        ]
        farthest = max(ahead, key=lambda Q: dot(minus(Q, here), minus(Q, here)))
        if farthest == ring[0]:
            return ring
        ring.append(farthest)


def slow_faces(points):
    return [(plane, slow_ring(plane, points)) for plane in slow_planes(points)]


def slow_dimension(points):
    """How many of the ways from the first point are free of one another."""
    ways = [minus(Q, points[0]) for Q in points]
    if any(determinant(*three) for three in combinations(ways, 3)):
        return 3
    if any(slow_cross(u, v) != (0, 0, 0) for u, v in combinations(ways, 2)):
        return 2
    return 1 if any(way != (0, 0, 0) for way in ways) else 0


def with_more_points(corners):
    """The corners of a body times six, and points of it that are none, in a strange order."""
    corners = [tuple(6 * n for n in P) for P in corners]
    faces = slow_faces(corners)
    more = corners + corners[:2]
    for plane, ring in faces[:3]:
        more.append(tuple((a + b) // 2 for a, b in zip(ring[0], ring[1])))
        more.append(tuple((a + 2 * b) // 3 for a, b in zip(ring[-1], ring[0])))
        more.append(tuple((a + b + c) // 3 for a, b, c in zip(ring[0], ring[1], ring[2])))
    apart = [P for P in corners if P not in faces[0][1]][0]
    centre = more[len(corners) + 4]
    more.append(tuple((a + b) // 2 for a, b in zip(apart, centre)))
    return Dice(len(corners)).shuffled(more), corners


def folded(corners, k):
    return sorted(tuple(k * n for n in P) for P in corners)


def mixed(points, weights):
    """The points put together with whole weights, by all weights together: to be whole."""
    whole = sum(weights)
    sums = [sum(w * P[k] for w, P in zip(weights, points)) for k in range(3)]
    if any(n % whole for n in sums):
        raise AssertionError("the mixed point is not whole")
    return tuple(n // whole for n in sums)


def come_to(shares):
    """What shares come to, as a number and a point, in fractions of Python's own."""
    fractions = [(P, Fraction(top, bottom)) for P, (top, bottom) in shares]
    whole = sum(share for P, share in fractions)
    return whole, tuple(sum(share * P[k] for P, share in fractions) for k in range(3))


def slow_where(planes, P):
    return -max(slow_side(plane, P) for plane in planes)


def all_sums(one, other):
    return [tuple(a + b for a, b in zip(P, Q)) for P in one for Q in other]


def slow_moved(P, move):
    a, b, c, d, e, f, g, h, i, p, q, r = move
    x, y, z = P
    return (a * x + b * y + c * z + p, d * x + e * y + f * z + q, g * x + h * y + i * z + r)


def slow_corners(points):
    return sorted({P for plane, ring in slow_faces(points) for P in ring})
