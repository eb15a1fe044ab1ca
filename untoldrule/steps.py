"""What steps do to a state, whether the cells hold values or anything else that functions can be applied to.

In each call, apply(function, args) gives what a function makes of the contents of a few variables.
"""

from untoldrule.programs import Read, Write


def do_step(step, cells, state, variables, apply):
    """Return the state after a step; a read changes variables, the dict of the variables of its program."""
    if isinstance(step, Read):
        variables[step.local] = state[cells.index(step.source)]
    if isinstance(step, Write):
        args = [variables[local] for local in step.arguments]
        at = cells.index(step.target)
        return (*state[:at], apply(step.function, args), *state[at + 1:])
    return state


def do_program(program, cells, start, apply):
    """Return the state in which a program ends that is run alone."""
    variables = {}
    state = start
    for step in program.steps:
        state = do_step(step, cells, state, variables, apply)
    return state


def do_turns(turns, cells, start, apply):
    """Return the list of the states before the first turn of a plan and after each turn."""
    variables = {}
    found = [start]
    for turn in turns:
        own = variables.setdefault((turn.lane, turn.occurrence), {})
        found.append(do_step(turn.step, cells, found[-1], own, apply))
    return found
