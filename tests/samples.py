"""Figures for the tests, the same ones each time, and slow but plain ways to find what the package finds."""

import itertools
import random

from nevercrossed.cells import border
from nevercrossed.counting import count
from nevercrossed.fewest import pieces
from nevercrossed.figures import Figure
from nevercrossed.plans import Plan
from nevercrossed.regions import Regions
from nevercrossed.rounds import mended

ALL_EDGES = sorted(
    [((x, y), (x + 1, y)) for x in range(30) for y in range(31)]
    + [((x, y), (x, y + 1)) for x in range(31) for y in range(30)]
)
ALL_CELLS = [(x, y) for x in range(30) for y in range(30)]
STEPS = {"r": (1, 0), "u": (0, 1), "l": (-1, 0), "d": (0, -1)}
OPPOSITE = {"r": "l", "u": "d", "l": "r", "d": "u"}

SQUARE = border([(0, 0)])
BOTH = border([(0, 0), (1, 1)])
RING = border([(1, 0), (2, 1), (1, 2), (0, 1)])
CHAIN = border([(0, 0), (1, 1), (2, 0)])
# A dark frame that touches itself at (1, 1), and a dark cell in its light hole that touches it at (3, 3).
HOLE = ((1, 1), (1, 2), (1, 3), (2, 1), (2, 3), (3, 1), (3, 2))
WITHIN = border([(x, y) for x in range(5) for y in range(5) if (x, y) not in ((0, 0),) + HOLE])


def some_figure(size, count, seed):
    """Return a figure of so many edges, if there are, within a corner of the paper."""
    near = [edge for edge in ALL_EDGES if edge[1][0] <= size and edge[1][1] <= size]
    return Figure(random.Random(seed).sample(near, min(count, len(near))))


def any_figures(many=60):
    """Return figures of all sizes up to 60 edges, dense ones and thin ones, with odd points and of several pieces."""
    chance = random.Random(many)
    return [Figure()] + [some_figure(chance.randint(1, 7), chance.randint(1, 60), seed) for seed in range(many)]


def large_figures():
    """Return figures of 360 to 400 edges: thick ones, a comb, one long line, single edges, squares."""
    comb = [((x, 0), (x + 1, 0)) for x in range(30)] + [((x, y), (x, y + 1)) for x in range(30) for y in range(12)]
    snake = [((x, y), (x + 1, y)) for x in range(30) for y in range(12)]
    snake += [((30 * (1 - y % 2), y), (30 * (1 - y % 2), y + 1)) for y in range(11)]
    alone = [((x, y), (x + 1, y)) for x in range(0, 30, 2) for y in range(26)]
    squares = [border([(x, y)]) for x in range(0, 30, 3) for y in range(0, 30, 3)]
    figures = [some_figure(size, 400, size) for size in (13, 14, 16, 20, 30)]
    figures += [Figure(comb), Figure(snake), Figure(alone)]
    return figures + [Figure([edge for square in squares for edge in square.edges])]


def even_figures(many=60, size=6):
    """Return even figures, some of several pieces, at all corners of the paper."""
    chance = random.Random(many)
    figures = [Figure(), SQUARE, BOTH, RING, CHAIN]
    while len(figures) < many:
        width = chance.randint(1, size)
        # Some like a chessboard, so that there are many points of degree 4; some with no pattern.
        one, other = chance.choice(((0.95, 0.05), (0.8, 0.1), (0.5, 0.5), (0.3, 0.7)))
        squares = [(x, y) for x in range(width) for y in range(width)]
        cells = [(x, y) for x, y in squares if chance.random() < (one if (x + y) % 2 == 0 else other)]
        far = (30 - width, 30 - width)
        dx, dy = chance.choice(((0, 0), (far[0], 0), (0, far[1]), far, (chance.randint(0, far[0]), 7)))
        figures.append(border([(x + dx, y + dy) for x, y in cells]))
    return figures


def single_figures(many=60, size=6, crossings=99):
    """Return even figures of one piece with at most so many points of degree 4."""
    found = [max(pieces(figure), key=len) for figure in even_figures(2 * many, size) if len(figure) > 0]
    return [figure for figure in found if len(crossings_of(figure)) <= crossings][:many]


def rich_figures(many=30, crossings=8):
    """Return even figures of one piece, with at most so many points of degree 4 and more than one plan of one line."""
    chance = random.Random(crossings)
    found = [RING]
    while len(found) < many:
        width, height = chance.randint(3, 5), chance.randint(3, 6)
        squares = [(x, y) for x in range(width) for y in range(height)]
        cells = [(x, y) for x, y in squares if chance.random() < (0.85 if (x + y) % 2 else 0.15)]
        figure = max(pieces(border(cells)), key=len, default=SQUARE)
        if 3 <= len(crossings_of(figure)) <= crossings and count(figure) > 1:
            found.append(figure.shifted(0, 3))
    return found


def balanced_figures(many=40, crossings=8, size=5):
    """Return even figures of one piece with points of degree 4 and as many dark regions as light ones."""
    chance = random.Random(crossings)
    found = []
    while len(found) < many:
        squares = [(x, y) for x in range(chance.randint(3, size)) for y in range(chance.randint(3, size))]
        cells = [(x, y) for x, y in squares if chance.random() < (0.9 if (x + y) % 2 else 0.4)]
        figure = max(pieces(border(cells)), key=len, default=SQUARE)
        if 2 <= len(crossings_of(figure)) <= crossings:
            regions = Regions(figure)
            if len(regions.dark) == len(regions.light):
                found.append(figure)
    return found


def checkered(width, height):
    """Return the border of the cells of one color of a chessboard: an even figure of one piece."""
    return border([(x, y) for x in range(width) for y in range(height) if (x + y) % 2 == 0])


def diagonal(crossings):
    """Return the border of cells one corner after the other: exactly one plan is one line."""
    return border([(place, place) for place in range(crossings + 1)])


def degree_points(figure, degree):
    return [point for point in figure.points() if len(figure.directions(point)) == degree]


def crossings_of(figure):
    return degree_points(figure, 4)


def all_plans(figure):
    """Return all plans of a figure."""
    forks = [point for point in figure.points() if len(figure.directions(point)) > 2]
    words = [("ru", "rd") if len(figure.directions(point)) == 4 else figure.directions(point) for point in forks]
    return [Plan(figure, dict(zip(forks, choice))) for choice in itertools.product(*words)]


def random_plan(figure, seed):
    chance = random.Random(seed)
    turns = {point: chance.choice(figure.directions(point)) for point in degree_points(figure, 3)}
    turns.update({point: chance.choice(("ru", "rd")) for point in crossings_of(figure)})
    return Plan(figure, turns)


def one_lines(figure):
    """Return the plans of one line, in the order of the document."""
    plans = [plan for plan in all_plans(figure) if len(plan.lines()) == 1]
    return sorted(plans, key=lambda plan: [plan[point] == "rd" for point in crossings_of(figure)])


def one_line_plan(figure, seed):
    """Return some plan of one line of a figure of any size."""
    plan = random_plan(figure, seed)
    return plan.turned(mended(plan))


def stepped(point, direction):
    return (point[0] + STEPS[direction][0], point[1] + STEPS[direction][1])


def direction_of(point, other):
    return next(way for way in "ruld" if stepped(point, way) == other)


def edges_of(walk):
    """Return the edges of a walk in their order."""
    return [tuple(sorted(pair)) for pair in zip(walk, walk[1:])]


def lines_by_hand(figure, turns):
    """Return the lines of a plan, found by the words of the document, one step after another."""
    pairs = {}
    for point in figure.points():
        ways = figure.directions(point)
        word = turns.get(point, "")
        if len(ways) == 4:
            joined = [("r", "u"), ("l", "d")] if word == "ru" else [("r", "d"), ("l", "u")]
        else:
            rest = [way for way in ways if way != word]
            joined = [tuple(rest)] if len(rest) == 2 else []
        for one, other in joined:
            pairs[point, one], pairs[point, other] = other, one
    left = set(figure.edges)
    starts = [(point, way) for point in figure.points() for way in figure.directions(point)]
    ends = [start for start in starts if start not in pairs]
    found = []
    for point, way in ends + starts:
        walk = [point]
        while way is not None and tuple(sorted((walk[-1], stepped(walk[-1], way)))) in left:
            left.discard(tuple(sorted((walk[-1], stepped(walk[-1], way)))))
            walk.append(stepped(walk[-1], way))
            way = pairs.get((walk[-1], OPPOSITE[way]))
        if len(walk) > 1:
            found.append(least_way_of_writing(tuple(walk)))
    return tuple(sorted(found))


def least_way_of_writing(walk):
    if walk[0] != walk[-1]:
        return min(walk, walk[::-1])
    around = walk[:-1]
    turns = [around[at:] + around[:at + 1] for at in range(len(around))]
    return min(turns + [turn[::-1] for turn in turns])


def parts_by_hand(nodes, pairs):
    """Return the number of connected parts of a graph."""
    part = {node: node for node in nodes}
    for one, other in pairs:
        old, new = part[one], part[other]
        part = {node: new if place == old else place for node, place in part.items()}
    return len(set(part.values()))


def regions_by_hand(figure):
    """Return the dark regions and the light ones, filled square by square, a rim of squares beyond the paper too."""
    edges = set(figure.edges)
    squares = [(x, y) for x in range(-1, 31) for y in range(-1, 31)]
    left = set(squares)
    found = []
    for square in squares:
        region = []
        waiting = [square] if square in left else []
        left.discard(square)
        while waiting:
            x, y = waiting.pop()
            region.append((x, y))
            for near, side in (
                ((x + 1, y), ((x + 1, y), (x + 1, y + 1))), ((x - 1, y), ((x, y), (x, y + 1))),
                ((x, y + 1), ((x, y + 1), (x + 1, y + 1))), ((x, y - 1), ((x, y), (x + 1, y))),
            ):
                if near in left and side not in edges:
                    left.discard(near)
                    waiting.append(near)
        if region:
            found.append(tuple(sorted(region)))
    # The first square is beyond the paper, so the first region is the outside.
    outside = tuple(cell for cell in found[0] if cell in ALL_CELLS)
    dark = tuple(sorted(region for region in found[1:] if is_dark_by_hand(figure, region[0])))
    light = tuple(sorted(region for region in found[1:] if not is_dark_by_hand(figure, region[0])))
    return dark, (outside,) + light


def is_dark_by_hand(figure, cell):
    x, y = cell
    return len([left for left in range(x + 1) if ((left, y), (left, y + 1)) in figure.edges]) % 2 == 1


def joined_points(plan):
    regions = Regions(plan.figure)
    return [point for point in regions.crossings() if plan[point] == regions.joining(point)]


def parted_points(plan):
    regions = Regions(plan.figure)
    return [point for point in regions.crossings() if plan[point] != regions.joining(point)]


def all_rounds(figure, color):
    """Return all rounds of a color, in all ways of writing them, as a dict."""
    regions = Regions(figure)
    pairs = {point: regions.between(color, point) for point in regions.crossings()}
    found = {}

    def go_on(numbers, points):
        for point, pair in pairs.items():
            if point in points or numbers[-1] not in pair:
                continue
            other = pair[0] + pair[1] - numbers[-1]
            if other == numbers[0]:
                found[(color, tuple(numbers), tuple(points + [point]))] = True
            elif other not in numbers:
                go_on(numbers + [other], points + [point])

    for start in range(len(regions.dark if color == "dark" else regions.light)):
        go_on([start], [])
    return found
