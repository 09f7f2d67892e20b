"""Points of the quadrant: steps between them, and boxes full of them."""


def step_back(point, vector):
    """Return the point less a vector, None if it is outside."""
    place = tuple([start - step for start, step in zip(point, vector)])
    if min(place) < 0:
        return None
    return place


def is_below(low, point):
    """Tell if a point is in no coordinate greater than another one; two equal points count, too."""
    return all([least <= place for least, place in zip(low, point)])


def box(dimensions, top):
    """Return the ascending list of the points with no integer greater than top."""
    points = [()]
    for _ in range(dimensions):
        points = [point + (place,) for point in points for place in range(top + 1)]
    return points
