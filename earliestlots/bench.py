"""The bench: a book on which edits are done, taken back and tried ([10.5] to [10.7])."""

from earliestlots.edits import books_through, check_edit, edited_through, led_back
from earliestlots.errors import NothingDone
from earliestlots.papers import strip_book
from earliestlots.standings import check_standing, is_whole


class Bench:
    """The book at the start, the book behind the edits that stand, these edits, and what was put and taken back."""

    def __init__(self, start):
        self.start = start
        self.book = start
        self.kept_edits = ()
        self.log = ()

    def __len__(self):
        return len(self.kept_edits)

    def __iter__(self):
        return iter(self.kept_edits)

    def put_edit(self, edit):
        """Does one edit more; how many stand then."""
        return self.put_all((edit,))

    def put_all(self, edits):
        """Does the edits one after another, or none of them if one cannot be done; how many stand then."""
        books = books_through(self.book, edits)
        done = tuple([check_edit(book, edit) for book, edit in zip(books, edits)])
        self.book = books[-1]
        self.kept_edits = self.kept_edits + done
        self.log = self.log + tuple([("put", edit) for edit in done])
        return len(self.kept_edits)

    def take_back(self, many=1):
        """Takes back the last so many edits that stand; these, the latest first."""
        standing = len(self.kept_edits)
        if not is_whole(many, 1, standing):
            raise NothingDone()
        kept = self.kept_edits[:standing - many]
        back = self.kept_edits[standing - many:][::-1]
        self.book = edited_through(self.start, kept)
        self.kept_edits = kept
        self.log = self.log + tuple([("back", edit) for edit in back])
        return back

    def outcome(self):
        """What strip_book returns for the book."""
        return strip_book(self.book)

    def lead_back(self, dating):
        """The standing of the dates of the start to which this one of the dates of the book is led back."""
        ranks = check_standing(dating, self.book.size)
        books = books_through(self.start, self.kept_edits)
        for book, edit in list(zip(books, self.kept_edits))[::-1]:
            ranks = led_back(book, edit, ranks)
        return ranks

    def tried(self, work):
        """What the work returns for the bench; what it did to the bench is undone."""
        book = self.book
        kept_edits = self.kept_edits
        log = self.log
        try:
            return work(self)
        finally:
            self.book, self.kept_edits, self.log = book, kept_edits, log
