"""A playing of point [9] that is not the package's own: pages are lists of their entries, a shelf is a list of rows."""


def numbers_of(rule, most):
    """M, m, cut, join and w of a fill rule."""
    (p, q), k = rule.times, rule.plus
    return most, (p * most + k) // q, rule.cut_of, rule.join_of, max(rule.cut_of, rule.join_of)


def is_right(rule, most):
    """Whether a rule is right for a size, by the words of point [9]."""
    most, least, cut, join, _ = numbers_of(rule, most)
    n = min(cut + 1, join)
    return 1 <= least and n * least <= (n - 1) * most + 1


def keeps(rule, most, pages):
    """Whether a row keeps a rule."""
    most, least, _, _, width = numbers_of(rule, most)
    if any(len(page) > most for page in pages):
        return False
    if len(pages) > width:
        return all(len(page) >= least for page in pages)
    return len(pages) < 2 or all(len(page) >= min(least, (most + 1) // 2) for page in pages)


def deal(entries, many):
    """The entries in so many pages."""
    total, pages = len(entries), []
    for at in range(many):
        size = total // many + (1 if at < total - many * (total // many) else 0)
        pages.append(entries[:size])
        entries = entries[size:]
    return pages


def owner(pages, index):
    """The index of the page that has an entry, and the place of the entry in it."""
    places = [(at, place) for at, page in enumerate(pages) for place in range(len(page))]
    return places[index]


def leftmost(at, many, count):
    """The first one of so many neighbouring pages that contain a page, leftmost of all such."""
    return next(start for start in range(count) if start <= at < start + many)


def put(rule, most, pages, ahead, entry):
    """The pages behind a put, and the deed for the row above: None, ("more", ahead) or ("fewer", index)."""
    most, _, cut, _, width = numbers_of(rule, most)
    if not pages:
        return [[entry]], ("more", 0)
    pages = [list(page) for page in pages]
    if ahead == 0:
        at = 0
        pages[0].insert(0, entry)
    else:
        at, place = owner(pages, ahead - 1)
        pages[at].insert(place + 1, entry)
    if len(pages) <= width:
        entries, many = sum(pages, []), len(pages)
        dealt = deal(entries, many if len(entries) <= many * most else many + 1)
        return dealt, ("more", many) if len(dealt) > many else None
    if len(pages[at]) <= most:
        return pages, None
    start = leftmost(at, cut, len(pages))
    entries = sum(pages[start:start + cut], [])
    dealt = deal(entries, cut if len(entries) <= cut * most else cut + 1)
    return pages[:start] + dealt + pages[start + cut:], ("more", start + cut) if len(dealt) > cut else None


def take(rule, most, pages, index):
    """As put, behind a take."""
    most, least, _, join, width = numbers_of(rule, most)
    pages = [list(page) for page in pages]
    at, place = owner(pages, index)
    del pages[at][place]
    if len(pages) <= width:
        entries, many = sum(pages, []), len(pages)
        dealt = deal(entries, many - 1 if len(entries) <= (many - 1) * most else many)
        return dealt, ("fewer", many - 1) if len(dealt) < many else None
    if len(pages[at]) >= least:
        return pages, None
    start = leftmost(at, join, len(pages))
    entries = sum(pages[start:start + join], [])
    dealt = deal(entries, join if len(entries) >= join * least else join - 1)
    behind = pages[:start] + dealt + pages[start + join:]
    return behind, ("fewer", start + join - 1) if len(dealt) < join else None


class Rows:
    """A shelf played: the rows from the bottom up; the entries of the bottom row are its keys."""

    def __init__(self, rule, most, rows=()):
        self.rule = rule
        self.most = most
        self.rows = [[list(page) for page in row] for row in rows]

    def keys(self):
        return sum(self.rows[0], []) if self.rows else []

    def fills(self):
        return tuple(tuple(len(page) for page in row) for row in self.rows)

    def put(self, key):
        keys = self.keys()
        row, deed = put(self.rule, self.most, self.rows[0] if self.rows else [], sum(other < key for other in keys), key)
        self.rows[:1] = [row]
        self.follow(deed)

    def take(self, key):
        row, deed = take(self.rule, self.most, self.rows[0], self.keys().index(key))
        self.rows[0] = row
        self.follow(deed)

    def follow(self, deed):
        """Does what a deed in the bottom row is for the rows above."""
        at = 0
        while len(self.rows[at]) > 1:
            if at + 1 == len(self.rows):
                self.rows.append([[None, None]])
                return
            at += 1
            if deed is None:
                return
            if deed[0] == "more":
                self.rows[at], deed = put(self.rule, self.most, self.rows[at], deed[1], None)
            else:
                self.rows[at], deed = take(self.rule, self.most, self.rows[at], deed[1])
        # Above a row of one page, or of none, stands nothing.
        self.rows = self.rows[:at + 1] if self.rows[at] else []

    def keeps(self):
        return all(keeps(self.rule, self.most, row) for row in self.rows)


def built(rule, most, keys):
    """A shelf whose keys, and the entries of each row above, are dealt to the fewest pages."""
    rows, entries = [], list(keys)
    while entries:
        fewest = next(many for many in range(1, len(entries) + 1) if many * most >= len(entries))
        rows.append(deal(entries, fewest))
        entries = [None] * fewest if fewest > 1 else []
    return Rows(rule, most, rows)
