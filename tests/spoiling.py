"""Changes what was told or handed in, as far as it can be changed."""


def spoil_pipe(pipe):
    pipe.rooms.insert(0, 3)
    pipe.table.clear()
    pipe.thick.append(("gas", "wax", 9))
    pipe.apart.extend([("oil", "gas"), ("gas", "wax"), ("oil", "wax")])
    pipe.pig = (0, 1)


def replace_fields(pipe):
    pipe.rooms = [1]
    pipe.table = []
    pipe.thick = []
    pipe.apart = [("oil", "gas"), ("gas", "wax"), ("oil", "wax")]
    pipe.pig = (0, 1)


def lists_in(answer):
    found = []
    if isinstance(answer, list):
        found.append(answer)
    if isinstance(answer, (list, tuple)):
        for part in answer:
            found.extend(lists_in(part))
    return found


def spoil(answer):
    for part in lists_in(answer):
        part.append("spoiled")
        part.reverse()


def spoil_tank(tank):
    tank.holds.insert(0, ("ale", (7, 1)))
    tank.rested = (999, 1)
    tank.high = 0


def spoil_works(works):
    """All that a works' fields hold is changed within."""
    for node, tank in works.tanks:
        spoil_tank(tank)
    for node, shares in works.slops:
        shares.append(("zinc", (1, 1)))
    for field in [works.sources, works.tanks, works.slops, works.bounds, works.orders, works.taken]:
        field.insert(0, "spoiled")
    spoil_pipe(works.pipe)


def replace_works_fields(works):
    """All fields of a works, but its content, are given other values."""
    replace_fields(works.pipe)
    works.hour = (10 ** 6, 1)
    works.sources = []
    works.tanks = []
    works.slops = [(1, [("zinc", (1, 1))])]
    works.bounds = []
    works.orders = []
    works.taken = [0, 1, 2]
