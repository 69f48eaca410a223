"""Ramps of the fewest cells on a surface of heights."""


class Surface:
    """Heights in rows of nx cells, and by how much those of two cells of a ramp may differ."""

    def __init__(self, nx, heights, most):
        self.nx = nx
        self.heights = heights
        self.most = most


def cells_beside(surface, cell):
    """The cells beside one, whatever their heights, the least number first."""
    nx = surface.nx
    beside = []
    if cell >= nx:
        beside.append(cell - nx)
    # A row's end and the next row's beginning have numbers that differ by one, but aren't beside each other.
    if cell % nx > 0:
        beside.append(cell - 1)
    if cell % nx < nx - 1:
        beside.append(cell + 1)
    if cell + nx < len(surface.heights):
        beside.append(cell + nx)
    return beside


def cells_joined(surface, cell):
    """The cells that may stand next to one in a ramp, the least number first."""
    height = surface.heights[cell]
    return [other for other in cells_beside(surface, cell) if abs(surface.heights[other] - height) <= surface.most]


def cell_levels(surface, first):
    """By each cell that a ramp from the first one comes to: by how many steps, at the fewest."""
    levels = {first: 0}
    front = [first]
    while len(front) > 0:
        beyond = []
        for cell in front:
            for other in cells_joined(surface, cell):
                if other not in levels:
                    levels[other] = levels[cell] + 1
                    beyond.append(other)
        front = beyond
    return levels


def cell_before(surface, levels, cell):
    """The cell with the least number, of the level one less, that is joined to this one."""
    for other in cells_joined(surface, cell):
        if levels[other] == levels[cell] - 1:
            return other
    return None


def ramp_cells(surface, levels, second):
    """The cells of the ramp to the second cell, found from its end; the second cell has a level."""
    found = [second]
    while levels[found[-1]] > 0:
        found.append(cell_before(surface, levels, found[-1]))
    found.reverse()
    return found
