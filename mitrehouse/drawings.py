"""Drawings: a history that is changed, of which no more is made anew than has to be."""

from mitrehouse.bodies import EMPTY
from mitrehouse.errors import NotRight, NotThere, is_name
from mitrehouse.histories import behind, check_history, feature_numbers
from mitrehouse.ratios import is_whole


class Drawing:
    """A history, and the steps of its last building by the names of the features.

    A step is a list of the feature, the worths of its numbers, the body ahead of it and the body behind it.
    """

    def __init__(self, history):
        check_history(history)
        self._history = history
        self._steps = {}
        self._anew = []

    def history(self):
        """Returns the history."""
        return self._history

    def take(self, history):
        """Keeps another history in the place of this one."""
        check_history(history)
        self._history = history

    def set_number(self, name, ratio):
        """Gives a number, perhaps a new one, a worth."""
        if not is_name(name):
            raise NotRight("it is no name")
        numbers = dict(self._history[0])
        numbers[name] = ratio
        self.take((tuple(sorted(numbers.items())), self._history[1]))

    def drop_number(self, name):
        """Takes a number away."""
        numbers, features = self._history
        left = tuple([pair for pair in numbers if pair[0] != name])
        if len(left) == len(numbers):
            raise NotThere("there is no number with this name")
        self.take((left, features))

    def put(self, at, feature):
        """Puts a feature at an index among the others; one of the same name goes first."""
        numbers, features = self._history
        # What is put in may be no feature, and then perhaps it has no name.
        name = feature[0] if isinstance(feature, tuple) and feature else None
        others = [other for other in features if other[0] != name]
        if not is_whole(at) or not 0 <= at <= len(others):
            raise NotThere("there is no such index")
        self.take((numbers, tuple(others[:at] + [feature] + others[at:])))

    def drop(self, name):
        """Takes a feature away."""
        numbers, features = self._history
        left = tuple([feature for feature in features if feature[0] != name])
        if len(left) == len(features):
            raise NotThere("there is no feature with this name")
        self.take((numbers, left))

    def body(self):
        """Returns the body of the history; features whose steps are the same as before are not made anew."""
        numbers = dict(self._history[0])
        before = self._steps
        self._steps = {}
        self._anew = []
        body = EMPTY
        for feature in self._history[1]:
            worths = [numbers.get(name) for name in feature_numbers(feature)]
            step = before.get(feature[0])
            if step is None or step[:3] != [feature, worths, body]:
                self._anew.append(feature[0])
                step = [feature, worths, body, behind(body, feature, numbers)]
            self._steps[feature[0]] = step
            body = step[3]
        return body

    def anew(self):
        """Returns the list of the names of the features that were made anew for the last body, in order."""
        return list(self._anew)
