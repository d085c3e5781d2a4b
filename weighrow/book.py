"""A book of rows, wishes and a goal, with a search of them; its deeds can be taken back and done again."""

from weighrow.bounds import check_goal, check_many, check_room, check_terms, check_turns, has_mark, is_want
from weighrow.errors import BadWant, NoMark, NoRow, NothingLeft, NoWish, Wished
from weighrow.goals import by_bounds
from weighrow.rows import plain
from weighrow.search import answer_by_numbers, least_clash
from weighrow.state import new_state
from weighrow.ways import ways


class Book:
    """So many marks, rows by number, wishes, a goal, and a search that keeps what it learnt."""

    def __init__(self, many=4):
        check_many(many)
        self.many = many
        self.state = new_state(many, [], [], [], 1)
        self.past = []
        self.undone = []

    def put(self, terms, least):
        """The row that the terms and the least come to is put into the book; its number is told."""
        self.check_put(terms)
        number = self.coming()
        given = self.state.given + [(number, plain(terms, least))]
        self.go_to(self.state.with_rows(given, number + 1))
        return number

    def check_put(self, terms, more=1):
        """BadTerm or Full where so many more rows of these terms cannot be put."""
        check_terms(self.many, terms)
        check_room(len(self) + more)

    def take(self, number):
        """The row of that number is taken out; NoRow."""
        given = [pair for pair in self.state.given if pair[0] != number]
        if len(given) == len(self):
            raise NoRow()
        self.go_to(self.state.with_rows(given, self.coming()))

    def wish(self, mark, want):
        """The side is wished; NoMark, BadWant, Wished."""
        if not has_mark(self.many, mark):
            raise NoMark()
        if not is_want(want):
            raise BadWant()
        if mark in self.wished_marks():
            raise Wished()
        self.go_to(self.state.with_wishes(sorted(self.state.wished + [(mark, want)])))

    def free(self, mark):
        """The wish of the mark is none any more; NoWish."""
        if mark not in self.wished_marks():
            raise NoWish()
        self.go_to(self.state.with_wishes([side for side in self.state.wished if side[0] != mark]))

    def wished_marks(self):
        """The marks that have a wish, rising."""
        return [mark for mark, want in self.state.wished]

    def goal(self, terms):
        """The terms are the goal, an empty list for none; BadTerm."""
        check_goal(self.many, terms)
        self.go_to(self.state.with_goal(list(terms)))

    def run(self, turns=1):
        """The search goes on for so many turns; its word is told; BadTurns."""
        check_turns(turns)
        self.go_to(self.state.after_turns(turns))
        return self.word()

    def go_to(self, state):
        """A deed: the book stands so from now on, and what was taken back cannot be done again."""
        self.past.append(self.state)
        self.state = state
        self.undone = []

    def undo(self):
        """The last deed is taken back; NothingLeft."""
        if self.past == []:
            raise NothingLeft()
        self.undone.append(self.state)
        self.state = self.past.pop()

    def redo(self):
        """What was taken back last is done again; NothingLeft."""
        if self.undone == []:
            raise NothingLeft()
        self.past.append(self.state)
        self.state = self.undone.pop()

    def marks(self):
        """How many marks there are."""
        return self.many

    def rows(self):
        """Pairs (number, row), by rising numbers."""
        return list(self.state.given)

    def wishes(self):
        """The sides that are wished, rising."""
        return list(self.state.wished)

    def goal_terms(self):
        """The terms of the goal; none where there is no goal."""
        return list(self.state.aims)

    def coming(self):
        """The number of the row that is put next."""
        return self.state.following

    def word(self):
        """How the search stands: halted, yes or no."""
        return self.state.hunt.found

    def learnt(self):
        """The learnt rows, the eldest first, each with the numbers of the rows on which it leans."""
        return self.state.hunt.learnt()

    def learnt_log(self):
        """A Log from the rows of the book, in which each learnt row is some line's."""
        return self.state.hunt.learnt_log()

    def answer(self):
        """("yes", way) or ("no", clash, log), of all rows and wishes; the log is from the book's own numbers."""
        return answer_by_numbers(self.many, self.state.given, self.state.wished)

    def clash(self):
        """A least clash of the wishes, or None where some way has all rows and wishes."""
        return least_clash(self.many, self.plain_rows(), self.state.wished)

    def least(self):
        """The least that the goal comes to, 0 without one, whatever is wished; None where no way has all rows."""
        told = by_bounds(self.many, self.plain_rows(), self.state.aims)
        return None if told is None else told[0]

    def count(self):
        """How many ways have all rows, whatever is wished."""
        return len(ways(self.many, self.plain_rows()))

    def plain_rows(self):
        """The rows without their numbers."""
        return [row for number, row in self.state.given]

    def twin(self):
        """A Book that stands as this one does and goes its own way from now on."""
        other = Book(self.many)
        other.state = self.state
        other.past = list(self.past)
        other.undone = list(self.undone)
        return other

    def __len__(self):
        return len(self.state.given)

    def __eq__(self, other):
        return isinstance(other, Book) and self.looks() == other.looks()

    def looks(self):
        """All by which books are equal or not."""
        return (self.marks(), self.rows(), self.wishes(), self.goal_terms(), self.coming())

    def __repr__(self):
        return f"Book({self.many} marks, {len(self)} rows)"


def new_book(many, given, wished, aims, following):
    """A Book that has these rows, wishes, goal and next number, with nothing learnt and nothing to take back."""
    book = Book(many)
    book.state = new_state(many, given, wished, aims, following)
    return book
