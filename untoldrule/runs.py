"""Runs, which execute the steps of a plan one by one within the weavings that a scheduler lets through."""

from untoldrule.errors import Refused
from untoldrule.schedulers import next_lanes


class Run:
    """A run of the plan of a scheduler."""

    def __init__(self, scheduler, machine, state):
        machine.check_start(state)
        self._scheduler = scheduler
        self._machine = machine
        self._start = tuple(state)
        self._contents = self._start
        self._beginning = ()
        self._steps = sum(scheduler.weave.lengths)

    @property
    def state(self):
        """The current state."""
        return self._contents

    @property
    def done(self):
        """The beginning that has been executed so far."""
        return self._beginning

    @property
    def finished(self):
        """Whether no step is left."""
        return len(self._beginning) == self._steps

    def choices(self):
        """Return the tuple of the lanes that may go next, in ascending order."""
        return next_lanes(self._scheduler, self._beginning)

    def advance(self, lane):
        """Execute the next step of a lane and return the new state."""
        if lane not in self.choices():
            raise Refused(lane, len(self._beginning))
        self._beginning = (*self._beginning, lane)
        # What the variables hold follows from the start and from what is done, so it need not be kept.
        turns = self._scheduler.weave.turns_of(self._beginning)
        self._contents = self._machine.follow(turns, self._start)[-1]
        return self._contents

    def attempt(self, lanes):
        """Return the state that advancing these lanes one after another would lead to."""
        # Another run goes there, so there is nothing to be taken back in this one.
        other = Run(self._scheduler, self._machine, self._start)
        way = [*self._beginning, *lanes]
        for lane in way:
            other.advance(lane)
        return other.state
