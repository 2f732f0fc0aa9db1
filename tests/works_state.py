"""All that can be read of a works, and of a tank, as plain values of the tests' own."""
import copy

from batchpipe.content import meetings, pigs, stretches
from batchpipe.views import told
from batchpipe.works import account_of


def pipe_fields(pipe):
    return (list(pipe.rooms), list(pipe.table), list(pipe.thick), list(pipe.apart), pipe.pig)


def lying_state(content):
    return (stretches(content), meetings(content), pigs(content))


def content_state(content):
    return lying_state(content) + (told(content), pipe_fields(content.pipe))


def tank_fields(tank):
    return (tank.ware, tank.low, tank.high, tank.start, tank.settle, list(tank.holds), tank.rested)


def works_state(works):
    return copy.deepcopy({
        "pipe": pipe_fields(works.pipe),
        "content": content_state(works.content),
        "hour": works.hour,
        "sources": works.sources,
        "tanks": [(node, tank_fields(tank)) for node, tank in works.tanks],
        "slops": works.slops,
        "bounds": works.bounds,
        "orders": works.orders,
        "taken": works.taken,
        "account": account_of(works),
    })


def fast_state(works):
    """As the slow works tells its state."""
    return {
        "content": lying_state(works.content),
        "hour": works.hour,
        "sources": works.sources,
        "tanks": [(node, tank.ware, tank.holds, tank.rested) for node, tank in works.tanks],
        "slops": works.slops,
        "taken": works.taken,
        "account": account_of(works),
    }
