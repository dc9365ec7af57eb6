"""The desk: a house and a standing that are changed and asked about by rows of text."""

from lanternhouse.deedrows import after_row
from lanternhouse.errors import Refused
from lanternhouse.questions import answer_to
from lanternhouse.requirements import need_two_trades
from lanternhouse.standing import need_fits

DONE = "done"
UNDO = "undo"
REDO = "redo"


class Page:
    """What a desk keeps at one moment. A page is not changed, each row leads to another one.

    The past has a triple (row, house, standing) for each deed row in force: the
    row and what was kept before it. The undone rows have such triples with what
    was kept after them, the row that is done again first being the last one.
    """

    def __init__(self, house, standing, past, undone):
        self.house = house
        self.standing = standing
        self.past = past
        self.undone = undone


def page_done(page, row, house, standing, undone):
    """Return the page after the deed row, which leads to the house and the standing."""
    return Page(house, standing, page.past + [(row, page.house, page.standing)], undone)


def page_after_undo(page):
    """Return the page after the last deed row is taken back."""
    if len(page.past) == 0:
        raise Refused(UNDO)
    row, house, standing = page.past[-1]
    return Page(house, standing, page.past[:-1], page.undone + [(row, page.house, page.standing)])


def page_after_redo(page):
    """Return the page after the row that was taken back last is done again."""
    if len(page.undone) == 0:
        raise Refused(REDO)
    row, house, standing = page.undone[-1]
    return page_done(page, row, house, standing, page.undone[:-1])


def page_and_answer(page, row):
    """Return the page after the row, and the answer to it."""
    if row == UNDO:
        return page_after_undo(page), DONE
    if row == REDO:
        return page_after_redo(page), DONE
    answer = answer_to(page.house, page.standing, row)
    if answer is not None:
        return page, answer
    changed = after_row(page.house, page.standing, row)
    if changed is None:
        raise Refused(row)
    house, standing = changed
    return page_done(page, row, house, standing, []), DONE


class Desk:
    """A desk that keeps a house with the trades RB and a standing without masters."""

    def __init__(self, house, standing):
        need_fits(house, standing)
        need_two_trades(house, standing)
        self.busy = False
        self.rows = []
        self.keep(Page(house, standing, [], []))

    def keep(self, page):
        """Keep what the page says."""
        self.page = page
        self.house = page.house
        self.standing = page.standing
        self.rows = [row for row, _, _ in page.past]

    def tell(self, row):
        """Do the row and return its answer."""
        return self.tell_all([row])[0]

    def tell_all(self, rows):
        """Do all the rows and return the list of their answers, or do none of them if one is refused."""
        self.busy = True
        try:
            page = self.page
            answers = []
            for row in rows:
                page, answer = page_and_answer(page, row)
                answers.append(answer)
            # Only now, since a row that is refused comes here no more.
            self.keep(page)
            return answers
        finally:
            self.busy = False

    def journal(self):
        """Return the list of the deed rows that are in force, the oldest first."""
        return list(self.rows)

    def __len__(self):
        return len(self.rows)

    def __iter__(self):
        return iter(self.rows)
