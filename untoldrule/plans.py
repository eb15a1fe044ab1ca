"""Plans, which put programs one after another and side by side, and their weavings."""

from untoldrule.errors import InvalidPlaces, InvalidPlan, InvalidWeaving, NoWeaving, TooManySteps


class Plan:
    """A few lanes of program names."""

    MOST_LANES = 3
    MOST_NAMES = 4

    def __init__(self, lanes):
        if len(lanes) > Plan.MOST_LANES or any([len(names) > Plan.MOST_NAMES for names in lanes]):
            raise InvalidPlan()
        self.lanes = tuple(lanes)

    @classmethod
    def of(cls, *names):
        """Return the plan with one lane, which consists of these names."""
        return cls([names])

    @classmethod
    def empty(cls):
        """Return the plan without lanes."""
        return cls([])

    def __add__(self, other):
        if len(self.lanes) != 1 or len(other.lanes) != 1:
            raise InvalidPlan()
        return Plan([self.lanes[0] + other.lanes[0]])

    def __or__(self, other):
        return Plan(self.lanes + other.lanes)


class Turn:
    """One step of a lane, with the occurrence of a program that it belongs to."""

    def __init__(self, lane, occurrence, name, step):
        self.lane = lane
        self.occurrence = occurrence
        self.name = name
        self.step = step


class Weave:
    """The weavings of a plan."""

    MOST_STEPS = 8

    def __init__(self, system, plan):
        self._turns = [list_turns(system, lane, names) for lane, names in enumerate(plan.lanes)]
        self.lengths = tuple([len(turns) for turns in self._turns])
        self._number = sum(self.lengths)
        if self._number > Weave.MOST_STEPS:
            raise TooManySteps(self._number)
        self._found = {}

    def places(self):
        """Return the list of all places, in ascending order."""
        found = []
        for lane, turns in enumerate(self._turns):
            for k in range(1, len(turns)):
                if turns[k - 1].occurrence == turns[k].occurrence:
                    found.append((lane, k))
        return found

    def total(self, places=None):
        """Return the number of weavings that stay within the places."""
        return len(self._list_within(places))

    def walk(self, places=None):
        """Yield the weavings that stay within the places, in ascending order."""
        yield from self._list_within(places)

    def nth(self, position, places=None):
        """Return the weaving at this position of the weavings that stay within the places."""
        found = self._list_within(places)
        if not 0 <= position < len(found):
            raise NoWeaving(position)
        return found[position]

    def rank(self, weaving):
        """Return the position of a weaving among all weavings."""
        self.check_weaving(weaving)
        return list(self._find_all()).index(tuple(weaving))

    def opened(self, weaving):
        """Return the list of the places that a weaving opens, in ascending order."""
        self.check_weaving(weaving)
        return [place for place in self.places() if is_opened(weaving, place)]

    def walk_steps(self, weaving):
        """Yield the lane, the name of the program and the text of the step for each item of a weaving."""
        for turn in self.take_weaving(weaving):
            yield (turn.lane, turn.name, turn.step.text())

    def take_weaving(self, weaving):
        """Return the list of the turns that a weaving consists of; raise InvalidWeaving if it is not one."""
        self.check_weaving(weaving)
        return self.turns_of(weaving)

    def turns_of(self, beginning):
        """Return the list of the turns that a beginning consists of."""
        found = []
        for position, lane in enumerate(beginning):
            found.append(self._turns[lane][beginning[:position].count(lane)])
        return found

    def check_weaving(self, weaving):
        """Raise InvalidWeaving if this is not a weaving of the plan."""
        self.check_beginning(weaving)
        if len(weaving) < self._number:
            raise InvalidWeaving(len(weaving))

    def check_beginning(self, beginning):
        """Raise InvalidWeaving if this is not the beginning of a weaving of the plan."""
        for position, lane in enumerate(beginning):
            if not 0 <= lane < len(self.lengths):
                raise InvalidWeaving(position)
            if beginning[:position].count(lane) == self.lengths[lane]:
                raise InvalidWeaving(position)

    def _list_within(self, places):
        closed = self._list_closed(places)
        return [
            weaving
            for weaving, opened in self._find_all().items()
            if not any([place in closed for place in opened])
        ]

    def _list_closed(self, places):
        if places is None:
            return []
        possible = self.places()
        for place in places:
            if place not in possible:
                raise InvalidPlaces(place)
        return [place for place in possible if place not in places]

    def _find_all(self):
        # Only some calls need all weavings; the dict from them to their opened places is made once.
        if not self._found:
            self._found = {weaving: self.opened(weaving) for weaving in self._list_all()}
        return self._found

    def _list_all(self):
        found = [()]
        for _ in range(self._number):
            found = [
                (*beginning, lane)
                for beginning in found
                for lane, length in enumerate(self.lengths)
                if beginning.count(lane) < length
            ]
        return found


def list_turns(system, lane, names):
    """Return the list of the turns of a lane that consists of these programs."""
    found = []
    for occurrence, name in enumerate(names):
        for step in system.program_named(name).steps:
            found.append(Turn(lane, occurrence, name, step))
    return found


def is_opened(weaving, place):
    """Tell whether a weaving opens a place."""
    lane, k = place
    at = [position for position, item in enumerate(weaving) if item == lane]
    return at[k] > at[k - 1] + 1
