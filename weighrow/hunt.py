"""The hunt: what goes on in a search, turn by turn."""

from weighrow.spread import rows_touched, sides_told, slack_left
from weighrow.tracing import depth_of_use, traced, weakened_all, weight_of
from weighrow.trail import Trail
from weighrow.workings import Workings

HALTED = "halted"
YES = "yes"
NO = "no"


class Hunt:
    """A search for a way in which the rows of some lines of workings, and wishes, are so.

    The choices are a side of each mark; they are tried in their order. What is learnt is written into the workings.
    """

    def __init__(self, choices, workings, standing, wishes):
        self.choices = list(choices)
        self.workings = workings
        self.wished = sorted(wishes)
        self.trail = Trail(self.wished)
        self.standing = []
        self.against = {}
        for at in standing:
            self.let_stand(at)
        # The lines whose rows may be barred or tell something new.
        self.waiting = list(self.standing)
        self.gained = []
        self.found = HALTED
        self.last = None

    def let_stand(self, at):
        """Lets the row of that line be spread with the others from now on."""
        self.standing.append(at)
        for mark, want, weight in self.workings.row_at(at)[0]:
            self.against.setdefault((mark, 1 - want), []).append(at)

    def go_on(self, turns):
        """So many turns, or fewer where it ends ahead of them."""
        for step in range(turns):
            if self.found == HALTED:
                self.turn()

    def go_to_end(self):
        """As many turns as it takes."""
        # It does end: each time it goes back, the first depth that changes has a side more than it ever had there.
        while self.found == HALTED:
            self.turn()

    def turn(self):
        """One turn: it spreads, and then it chooses, learns or ends."""
        barred = self.spread_on()
        if barred is None:
            self.choose_on()
        elif self.trail.depth > 0:
            self.learn(barred)
        else:
            self.give_up(barred)

    def spread_on(self):
        """Sets what rows tell until none tells more; told is the line of the first row that is barred, or None."""
        wants = self.trail.wants
        while self.waiting != []:
            news = []
            for at in self.waiting:
                row = self.workings.row_at(at)
                if slack_left(row, wants) < 0:
                    return at
                told = sides_told(row, wants)
                self.note_told(told, at)
                news.extend(told)
            self.waiting = rows_touched(self.against, news)
        return None

    def note_told(self, told, at):
        """Sets the sides that the row of that line tells."""
        for side in told:
            self.trail.set_side(side, at)

    def choose_on(self):
        """Sets the first choice whose mark is not set, or ends with yes where there is none."""
        left = [side for side in self.choices if side[0] not in self.trail.wants]
        if left == []:
            self.found = YES
        else:
            self.trail.choose(left[0])
            self.waiting = rows_touched(self.against, left[:1])

    def learn(self, barred):
        """Learns a row of the barred one, and goes back to the first depth at which it is of use."""
        at = traced(self.workings, barred, self.trail)
        self.trail.go_back(depth_of_use(self.workings.row_at(at), self.trail))
        self.gained.append(at)
        self.let_stand(at)
        # All other rows have told what they tell at this depth.
        self.waiting = [at]

    def give_up(self, barred):
        """Ends with no, at a row that is barred by wishes, or at the bar."""
        at = traced(self.workings, barred, self.trail)
        if slack_left(self.workings.row_at(at), {}) < 0:
            at = weakened_all(self.workings, at, {})
        self.found = NO
        self.last = at

    def way(self):
        """The way at which it ended."""
        return [self.trail.wants[mark] for mark in range(len(self.choices))]

    def clash(self):
        """The wishes, rising, that bar the row at which it ended."""
        row = self.workings.row_at(self.last)
        return [(mark, want) for mark, want in self.wished if weight_of(row, (mark, 1 - want)) > 0]

    def log(self):
        """The Log of the row at which it ended."""
        return self.workings.log_to([self.last])

    def learnt(self):
        """The learnt rows, the eldest first, each with the numbers of the given rows on which it leans."""
        leans = self.workings.leans_at(self.gained)
        return [(self.workings.row_at(at), numbers) for at, numbers in zip(self.gained, leans)]

    def learnt_log(self):
        """A Log in which each learnt row is some line's."""
        return self.workings.log_to(self.gained)

    def learnt_by(self, numbers):
        """The lines of those learnt rows that lean on none but the given rows of these numbers."""
        leans = self.workings.leans_at(self.gained)
        return [at for at, told in zip(self.gained, leans) if all([number in numbers for number in told])]

    def copied(self):
        """A Hunt that stands as this one does, with workings of its own."""
        other = Hunt(self.choices, self.workings.copied(), self.standing, self.wished)
        other.trail = self.trail.copied()
        other.waiting = list(self.waiting)
        other.gained = list(self.gained)
        other.found = self.found
        other.last = self.last
        return other


def rising_choices(many):
    """The choices of a search that has nothing to go by."""
    return [(mark, 0) for mark in range(many)]


def numbered_rows(rows):
    """The rows with their numbers, from 1 on."""
    return list(enumerate(rows, start=1))


def new_hunt(choices, given, wishes=None):
    """A Hunt from given rows, pairs (number, row), with nothing learnt."""
    workings = Workings()
    standing = [workings.give(number, row) for number, row in given]
    return Hunt(choices, workings, standing, [] if wishes is None else wishes)


def begun_anew(hunt, given, wishes):
    """A Hunt at its beginning from these given rows, with what the other hunt learnt by none but them."""
    workings = Workings()
    standing = [workings.give(number, row) for number, row in given]
    gained = workings.take_over(hunt.workings, hunt.learnt_by([number for number, row in given]))
    other = Hunt(hunt.choices, workings, standing + gained, wishes)
    other.gained = gained
    return other
