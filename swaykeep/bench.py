"""A bench of houses, Keepers and Ledgers with names, to which orders are said row by row."""

from swaykeep.apart import told_apart
from swaykeep.comings import coming
from swaykeep.errors import NoName, NoSession, SwayError
from swaykeep.falls import next_move
from swaykeep.keepers import Keeper
from swaykeep.ledger import Ledger
from swaykeep.likeness import like
from swaykeep.orders import is_deed, read_order, show_latches, show_rows, show_swells, wants_of
from swaykeep.pulls import span, torn
from swaykeep.turning import moved, turned

DONE = "ok"
NONE = "none"


def row_of(parts):
    """A row of parts, with a blank between."""
    return " ".join([NONE if part is None else str(part) for part in parts])


def rows_of(rows):
    """Several rows of parts, or the word of none."""
    return ";".join([row_of(parts) for parts in rows]) if rows else NONE


def truth_of(truth):
    """The word of a truth."""
    return "yes" if truth else "no"


def new_house(house):
    """A house that is told by its rows."""
    return house


def new_moved(house, by):
    """A house moved."""
    return moved(house, by)


def new_turned(house):
    """A house turned."""
    return turned(house)


def new_keeper(house, swell, stand):
    """A Keeper of a house."""
    return Keeper(house, swell, stand=stand)


def new_twin(keeper):
    """The twin of a Keeper."""
    return keeper.twin()


def new_ledger(house, swell, stand):
    """A Ledger of a house."""
    return Ledger(house, stand, swell)


def do_forget(keeper):
    """Make a Keeper's moment its base."""
    keeper.forget()
    return DONE


def do_mark(keeper, name):
    """Mark a Keeper's moment."""
    keeper.mark(name)
    return DONE


def do_back(keeper, name):
    """Bring a Keeper's marked moment back."""
    keeper.back(name)
    return DONE


def do_to(keeper, swell):
    """Lead a Keeper to a swell."""
    return show_latches(keeper.to(swell))


def do_mend(keeper, house):
    """Mend a Keeper's house."""
    return show_latches(keeper.mend(house))


def do_through(keeper, times, history):
    """Lead a Keeper through a history."""
    return show_latches(keeper.through(history, times=times))


def do_repeat(ledger, times, history):
    """Lead a Ledger through a history."""
    return show_latches(ledger.through(history, times=times))


def do_undo(keeper):
    """Take a Keeper's last deed back."""
    return truth_of(keeper.undo())


def do_lead(ledger, swell):
    """Lead a Ledger to a swell."""
    return rows_of(ledger.to(swell))


def ask_text(house):
    """A house's rows."""
    return show_rows(house)


def ask_span(house, stand):
    """A stand's span, or why it has none."""
    both = span(house, stand)
    return row_of(torn(house, stand) if both is None else both)


def ask_coming(house, stand):
    """The history that comes to a stand."""
    paper = coming(house, stand)
    return paper[0] if paper[0] == "never" else show_swells(paper[1])


def ask_like(house):
    """Whether a house is like a plain one."""
    paper = like(house)
    if paper[0] == "plain":
        return f"{paper[0]} {rows_of(paper[1])}"
    return row_of(paper[:3])


def ask_apart(house, stand, other, there, swell):
    """The history that parts two stands."""
    paper = told_apart(house, stand, other, there, swell)
    return paper[0] if paper[0] == "alike" else show_swells(paper[1])


def ask_stand(keeper):
    """A Keeper's stand."""
    return show_latches(keeper.stand_now())


def ask_swell(keeper):
    """A Keeper's swell."""
    return str(keeper.swell_now())


def ask_base(keeper):
    """The swell and the stand of a Keeper's base."""
    stand, swell = keeper.base()
    return row_of([swell, show_latches(stand)])


def ask_residue(keeper):
    """A Keeper's residue."""
    return show_swells(keeper.residue())


def ask_marks(keeper):
    """The names of a Keeper's marks."""
    names = keeper.marks()
    return show_swells(names) if names else NONE


def ask_next(keeper, way):
    """The swell and the latches of a Keeper's next move."""
    move = next_move(keeper.house_now(), keeper.stand_now(), keeper.swell_now(), up=way == "up")
    return NONE if move is None else row_of([move[0], show_latches(move[1])])


def ask_same(keeper, other):
    """Whether two Keepers are equal."""
    return truth_of(keeper == other)


def ask_rest(ledger):
    """What is left of a Ledger's swells."""
    return show_swells(ledger.rest())


def ask_rows(ledger):
    """A Ledger's rows."""
    return rows_of(ledger.rows())


def ask_loss(ledger):
    """A Ledger's loss."""
    return str(ledger.loss())


def ask_work(ledger):
    """A Ledger's work."""
    return str(ledger.work())


# the deeds by which a name stands for a thing from now on: of which kind it is, and what makes it
NEW_KINDS = {"house": "house", "moved": "house", "turned": "house", "keep": "keeper", "twin": "keeper",
             "tally": "ledger"}
MAKERS = {"house": new_house, "moved": new_moved, "turned": new_turned, "keep": new_keeper, "twin": new_twin,
          "tally": new_ledger}
# what answers all other orders
ACTIONS = {
    "forget": do_forget, "mark": do_mark, "back": do_back, "to": do_to, "mend": do_mend, "through": do_through,
    "repeat": do_repeat, "undo": do_undo, "lead": do_lead, "text": ask_text, "span": ask_span, "coming": ask_coming,
    "like": ask_like, "apart": ask_apart, "stand": ask_stand, "swell": ask_swell, "base": ask_base,
    "residue": ask_residue, "marks": ask_marks, "next": ask_next, "same": ask_same, "rest": ask_rest,
    "rows": ask_rows, "loss": ask_loss, "work": ask_work}


class Bench:
    """Houses, Keepers and Ledgers by their names, and the rows of all deeds."""

    def __init__(self):
        self._houses = {}
        self._keepers = {}
        self._ledgers = {}
        self._log = []

    def _named_so(self, kind):
        """The things of a kind by their names, or None of what is no kind of them."""
        if kind == "house":
            return self._houses
        if kind == "keeper":
            return self._keepers
        return self._ledgers if kind == "ledger" else None

    def _meant(self, wanted, words):
        """What words stand for: the thing where a name of one is wanted, else the word itself."""
        meant = []
        for kind, word in zip(wanted, words):
            things = self._named_so(kind)
            if things is None:
                meant.append(word)
            elif word in things:
                meant.append(things[word])
            else:
                raise NoName(word)
        return meant

    def _answer(self, word, words):
        """Do what an order wants; told is the answer."""
        meant = self._meant(wants_of(word), words)
        if word not in NEW_KINDS:
            action = ACTIONS[word]
            return action(*meant)
        maker = MAKERS[word]
        name, *rest = meant
        things = self._named_so(NEW_KINDS[word])
        things[name] = maker(*rest)
        return DONE

    def say(self, row):
        """Do the order of a row; told is the answer."""
        order = read_order(row)
        word, *words = order
        answer = self._answer(word, words)
        if is_deed(order):
            self._log.append(row)
        return answer

    def sit(self, rows):
        """Say rows one behind the other; told are the answers, and where one is refused all is as ahead of them."""
        trial = self.copied()
        answers = []
        for at, row in enumerate(rows):
            try:
                answers.append(trial.say(row))
            except SwayError as e:
                raise NoSession(at, type(e).__name__)
        self._take(trial)
        return answers

    def _take(self, other):
        """Take all that another Bench has, which is used no more."""
        self._houses = other._houses
        self._keepers = other._keepers
        self._ledgers = other._ledgers
        self._log = other._log

    def log(self):
        """The rows of all deeds that were not refused."""
        return list(self._log)

    def named(self):
        """The sorted names of the houses, of the Keepers and of the Ledgers."""
        return sorted(self._houses), sorted(self._keepers), sorted(self._ledgers)

    def copied(self):
        """A Bench that is equal to this one, with its log."""
        other = Bench()
        other._houses = dict(self._houses)
        other._keepers = {name: keeper.twin() for name, keeper in self._keepers.items()}
        other._ledgers = {name: ledger.twin() for name, ledger in self._ledgers.items()}
        other._log = list(self._log)
        return other

    def said_again(self, log):
        """Another Bench, new, to which the rows of a log are said."""
        other = Bench()
        for row in log:
            other.say(row)
        return other

    def __eq__(self, other):
        if not isinstance(other, Bench):
            return False
        if self._houses != other._houses or self._keepers != other._keepers:
            return False
        return self._ledgers == other._ledgers

    def __len__(self):
        return len(list(self._houses) + list(self._keepers) + list(self._ledgers))
