"""Numbers in the place of points, edges and directions: quicker to compare and to look up than tuples of tuples.

The number of the point (x, y) is 31 * x + y. An edge goes up or to the right from its lesser point: its number is
twice the number of that point, and one more if it goes to the right. So the numbers are in the order of the points and
of the edges. The number of a direction is its place in DIRECTIONS.
"""

LAST = 30
SIDE = 31
DIRECTIONS = "ruld"
# From the number of a point to that of its neighbor, by the number of the direction.
STRIDES = (31, 1, -31, -1)
# The same by the direction itself.
NEIGHBORS = {"r": 31, "u": 1, "l": -31, "d": -1}
# From twice the number of a point to the number of its edge, by the direction.
OFFSETS = {"r": 1, "u": 0, "l": -61, "d": -2}
# The directions of the edges at a point: r counts 1, u 2, l 4 and d 8.
LETTERS = ("", "r", "u", "ru", "l", "rl", "ul", "rul", "d", "rd", "ud", "rud", "ld", "rld", "uld", "ruld")
# By the directions of the edges at a point, and the word there if it has one: the number of the direction with which
# each direction is paired, -1 if it is with none. "ruld" alone stands for the way along the border of a region, which
# goes from each direction on to the next one clockwise.
PARTNERS = {
    "r": (-1, -1, -1, -1), "u": (-1, -1, -1, -1), "l": (-1, -1, -1, -1), "d": (-1, -1, -1, -1),
    "ru": (1, 0, -1, -1), "rl": (2, -1, 0, -1), "rd": (3, -1, -1, 0),
    "ul": (-1, 2, 1, -1), "ud": (-1, 3, -1, 1), "ld": (-1, -1, 3, 2),
    "rulr": (-1, 2, 1, -1), "rulu": (2, -1, 0, -1), "rull": (1, 0, -1, -1),
    "rudr": (-1, 3, -1, 1), "rudu": (3, -1, -1, 0), "rudd": (1, 0, -1, -1),
    "rldr": (-1, -1, 3, 2), "rldl": (3, -1, -1, 0), "rldd": (2, -1, 0, -1),
    "uldu": (-1, -1, 3, 2), "uldl": (-1, 3, -1, 1), "uldd": (-1, 2, 1, -1),
    "ruldru": (1, 0, 3, 2), "ruldrd": (3, 2, 1, 0), "ruld": (3, 0, 1, 2),
}


def numbered_edge(number):
    """Return the edge with a number."""
    x, y = divmod(number // 2, SIDE)
    return ((x, y), (x + 1, y)) if number % 2 else ((x, y), (x, y + 1))
