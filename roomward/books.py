"""Books: what was done in a play, done again in a new one."""

from roomward.errors import NoBook, WardError
from roomward.plays import Play


def does_row(play, row):
    """Do with a play what a book's row tells; tell whether it has one of the three forms and is what comes."""
    if row[:1] == ("send",) and len(row) == 3:
        play.send(row[1], row[2])
        return True
    if row[:1] == ("came",) and len(row) == 2:
        play.came(row[1])
        return True
    return row[:1] == ("turn",) and row[1:] == play.turn()


def comes(play, row):
    """Do with a play what anything that stands in a book tells; tell whether that is what comes."""
    if not isinstance(row, tuple):
        return False
    try:
        return does_row(play, row)
    except WardError:
        return False


def replayed(warden, book):
    """A new play of a warden in which was done what a book tells."""
    play = Play(warden)
    for number, row in enumerate(book):
        if not comes(play, row):
            raise NoBook(number)
    return play
