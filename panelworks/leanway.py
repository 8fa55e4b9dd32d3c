"""Ways without tools that are taken, and gos that are gone, for nothing."""

from panelworks.steps import need_way


def lean_way(way):
    """The way with what matters of each run of tools and gos."""
    need_way(way)
    found = []
    run = []
    over = (0, 0)
    for step in way:
        if step[0] in ("tool", "go"):
            run.append(step)
        else:
            found.extend(_lean_run(run, over))
            over = _over_behind(run, over)
            run = []
            found.append(step)
            over = _over_behind([step], over)
    return tuple(found)


def is_lean(way):
    """Whether it is its own lean way."""
    return lean_way(way) == way


def _lean_run(run, over):
    """What matters of a run of tools and gos that begins over a place."""
    found = [step for step in run if step[0] == "tool"][-1:]
    without = _over_behind(found, over)
    if _over_behind(run, over) != without:
        found.append(run[-1])
    return found


def _over_behind(steps, over):
    """Where the tool is behind steps that begin over a place."""
    for step in steps:
        if step[0] == "tool":
            over = (0, 0)
        elif step[0] in ("go", "cut"):
            over = step[1:]
    return over
