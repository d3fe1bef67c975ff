"""How blocks and begun squares go on to tables."""

from solvedbothsides.rows import absent


def square(begun, size):
    """Return a table of this size that goes on from begun, of which size is at least twice the number of rows."""
    # A free thing is found for each cell, and no thing can be lacking: both because size is so great.
    return closed_block(filled(begun, size), size)


def filled(begun, size):
    """Return the rows of begun with a thing below size in each empty cell, none twice in a row or a column."""
    rows = [list(row) for row in begun]
    columns = [list(column) for column in zip(*begun)]
    for x in range(len(rows)):
        for y in range(len(columns)):
            if rows[x][y] is None:
                thing = free_thing(rows[x], columns[y])
                rows[x][y] = thing
                columns[y][x] = thing
    return rows


def free_thing(row, column):
    """Return the least thing that stands neither in the row nor in the column."""
    there = set(row + column)
    thing = 0
    while thing in there:
        thing += 1
    return thing


def closed_block(rows, size):
    """Return a table of this size that goes on from the rows of a block in which no thing is lacking."""
    right = spread([absent(row, size) for row in rows], size, size - len(rows[0]))
    wide = [(*row, *more) for row, more in zip(rows, right)]
    below = spread([absent(column, size) for column in zip(*wide)], size, size - len(rows))
    return tuple(wide + list(zip(*below)))


def spread(wanted, things, places):
    """Return the wanted things of each line in an order in which none stands in two lines at the same place.

    Each line wants as many things as there are places, and no thing is wanted by more lines.
    """
    # These are the colors of the edges between lines and things: with two sides so many of them are enough.
    lines = [[None] * places for _ in wanted]
    takers = [[None] * places for _ in range(things)]
    for line, many in enumerate(wanted):
        for thing in many:
            put(lines, takers, line, thing)
    return lines


def put(lines, takers, line, thing):
    """Put a thing at a free place of a line, and let it change its place in the line that has it there, and so on.

    lines tells which thing stands at a place of a line, takers which line has a thing at a place. All other lines in
    which something stands are full.
    """
    here = lines[line].index(None)
    there = takers[thing].index(None)
    # Things change from one of these places to the other along a path that cannot come back to the first line.
    while True:
        driven = takers[thing][here]
        takers[thing][there] = driven
        takers[thing][here] = line
        lines[line][here] = thing
        if driven is None:
            return
        further = lines[driven][there]
        lines[driven][there] = thing
        line = driven
        thing = further
