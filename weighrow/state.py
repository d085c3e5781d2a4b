"""States: how a book stands between two deeds."""

from weighrow.hunt import begun_anew, new_hunt, rising_choices


class State:
    """Given rows, wishes, a goal, the number that comes next, and a hunt.

    Nothing of a state is changed once it is made: so twins can share it, and a deed is taken back by going back to the
    state ahead of it.
    """

    def __init__(self, given, wished, aims, following, hunt):
        self.given = given
        self.wished = wished
        self.aims = aims
        self.following = following
        self.hunt = hunt

    def with_rows(self, given, following):
        """The state with these rows, and with its hunt begun anew."""
        return State(given, self.wished, self.aims, following, begun_anew(self.hunt, given, self.wished))

    def with_wishes(self, wished):
        """The state with these wishes, and with its hunt begun anew."""
        return State(self.given, wished, self.aims, self.following, begun_anew(self.hunt, self.given, wished))

    def with_goal(self, aims):
        """The state with this goal."""
        return State(self.given, self.wished, aims, self.following, self.hunt)

    def after_turns(self, turns):
        """The state with its hunt so many turns further on."""
        hunt = self.hunt.copied()
        hunt.go_on(turns)
        return State(self.given, self.wished, self.aims, self.following, hunt)


def new_state(many, given, wished, aims, following):
    """A State of so many marks with nothing learnt."""
    return State(given, wished, aims, following, new_hunt(rising_choices(many), given, wished))
