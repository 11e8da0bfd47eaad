"""Dealing: rows of pages by their numbers of entries, and what a put and a take leave of them under a fill rule."""

MORE = "more"
FEWER = "fewer"


def least_of(rule, most):
    """The least fill of pages that hold at most so many entries."""
    over, under = rule.times
    return (over * most + rule.plus) // under


def crucial_of(rule):
    """How many pages a rule has to fill to be right: those that the smallest group is dealt to, or comes from."""
    return rule.cut_of + 1 if rule.cut_of + 1 < rule.join_of else rule.join_of


def is_right_for(rule, most):
    """Whether a rule is right for pages that hold at most so many entries."""
    least, many = least_of(rule, most), crucial_of(rule)
    return 1 <= least and many * least <= (many - 1) * most + 1


def is_kept(rule, most, fills):
    """Whether a row keeps a rule."""
    least = least_of(rule, most)
    if len(fills) == 1:
        least = 1
    elif len(fills) <= rule.width and least > (most + 1) // 2:
        least = (most + 1) // 2
    for fill in fills:
        if not least <= fill <= most:
            return False
    return True


def dealt(total, pages):
    """The fills of so many pages to which so many entries are dealt."""
    if pages == 0:
        return []
    each, rest = divmod(total, pages)
    return [each + 1] * rest + [each] * (pages - rest)


def fewest_pages(most, total):
    """The fewest pages that can hold so many entries."""
    return (total + most - 1) // most


def page_at(fills, index):
    """The index of the page that has the entry of an index."""
    at = 0
    while index >= fills[at]:
        index = index - fills[at]
        at += 1
    return at


def page_for(fills, ahead):
    """The index of the page that gets an entry with so many ahead of it."""
    return page_at(fills, ahead - 1) if ahead > 0 else 0


def behind_put(rule, most, fills, ahead):
    """A pair: the fills behind a put with so many entries ahead, and the deed that this is for the row above, or None.

    The deed is (MORE, entries ahead) for a put, (FEWER, index) for a take.
    """
    if len(fills) == 0:
        return [1], (MORE, 0)
    at = page_for(fills, ahead)
    row = list(fills)
    row[at] += 1
    start, end = 0, len(row)
    if len(row) > rule.width:
        if row[at] <= most:
            return row, None
        start, end = group_of(at, rule.cut_of)
    pages = end - start
    if sum(row[start:end]) > pages * most:
        pages += 1
    return dealt_anew(row, start, end, pages)


def behind_take(rule, most, fills, index):
    """As behind_put, behind the take of the entry of an index."""
    at = page_at(fills, index)
    row = list(fills)
    row[at] -= 1
    start, end = 0, len(row)
    if len(row) <= rule.width:
        is_fewer = sum(row) <= (end - 1) * most
    else:
        least = least_of(rule, most)
        if row[at] >= least:
            return row, None
        start, end = group_of(at, rule.join_of)
        is_fewer = sum(row[start:end]) < rule.join_of * least
    return dealt_anew(row, start, end, end - start - (1 if is_fewer else 0))


def group_of(at, many):
    """The first page and the end of the leftmost so many neighbouring pages that contain a page."""
    start = at - many + 1 if at >= many else 0
    return start, start + many


def dealt_anew(row, start, end, pages):
    """A pair: the fills where a group is dealt to so many pages, and the deed for the row above, or None."""
    fills = [*row[:start], *dealt(sum(row[start:end]), pages), *row[end:]]
    if pages > end - start:
        return fills, (MORE, end)
    return fills, (FEWER, end - 1) if pages < end - start else None
