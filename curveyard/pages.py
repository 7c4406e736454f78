"""Pages of bounded size: leaves, which hold entries, and branches, which hold pages.

A page is never changed. A deed makes other pages in the place of those on its
way, so what a page tells of its things is right from when it is made, and a
deed that is refused leaves all as it was.
"""


class Page:
    """A leaf or a branch: its things in order, the least entry of each, and the greatest last beneath it."""

    def __init__(self, leaf, things):
        lasts = [entry[1] for entry in things] if leaf else [page.most for page in things]
        self.leaf = leaf
        self.things = things
        self.leasts = things if leaf else [page.leasts[0] for page in things]
        self.most = max(lasts, default=None)


def rank(entry):
    """What entries are ordered by."""
    first, last, name = entry
    return (first, name)


def way(branch, entry):
    """The number of the page of a branch where an entry has its place."""
    ahead = [least for least in branch.leasts if rank(least) <= rank(entry)]
    return max(len(ahead) - 1, 0)


def entry_like(page, entry):
    """The entry beneath a page with the same first and the same name as an entry, or None."""
    while not page.leaf:
        page = page.things[way(page, entry)]
    alike = [other for other in page.things if rank(other) == rank(entry)]
    return alike[0] if alike else None


def put_beneath(page, entry, size):
    """The one or two pages that come of a page and an entry more."""
    if page.leaf:
        return pages_of(True, sorted(page.things + [entry], key=rank), size)
    at = way(page, entry)
    inner = put_beneath(page.things[at], entry, size)
    return pages_of(False, page.things[:at] + inner + page.things[at + 1:], size)


def taken_beneath(page, entry, size):
    """The one page, or none, that comes of a page without an entry; it may hold too few things."""
    if page.leaf:
        return pages_of(True, [other for other in page.things if other != entry], size)
    at = way(page, entry)
    inner = taken_beneath(page.things[at], entry, size)
    return pages_of(False, filled(page.things[:at] + inner + page.things[at + 1:], size), size)


def pages_of(leaf, things, size):
    """The pages for these things: none, one, or two that hold half of them each."""
    if not things:
        return []
    if len(things) <= size:
        return [Page(leaf, things)]
    half = len(things) // 2
    return [Page(leaf, things[:half]), Page(leaf, things[half:])]


def filled(pages, size):
    """The pages of a branch, the one that holds too few things put together with one beside it."""
    few = [at for at, page in enumerate(pages) if len(page.things) < size // 2]
    if not few:
        return pages
    start = max(few[0] - 1, 0)
    things = []
    for page in pages[start:start + 2]:
        things.extend(page.things)
    return pages[:start] + pages_of(pages[0].leaf, things, size) + pages[start + 2:]


def root_of(pages):
    """The root above the pages that come of a deed."""
    if not pages:
        return Page(True, [])
    root = Page(False, pages)
    while not root.leaf and len(root.things) == 1:
        root = root.things[0]
    return root


def entries_beneath(page):
    """All entries beneath a page, in order."""
    if page.leaf:
        return list(page.things)
    entries = []
    for inner in page.things:
        entries.extend(entries_beneath(inner))
    return entries


def crossing_beneath(page, first, last):
    """The entries beneath a page, in order, that share a number with the stretch from first to last."""
    if page.leaf:
        return [entry for entry in page.things if entry[0] <= last and first <= entry[1]]
    entries = []
    for least, inner in zip(page.leasts, page.things):
        if least[0] <= last and first <= inner.most:
            entries.extend(crossing_beneath(inner, first, last))
    return entries


def shape_of(page):
    """What a page holds, told as plain values."""
    if page.leaf:
        return ("leaf", list(page.things))
    return ("branch", [(least, inner.most, shape_of(inner)) for least, inner in zip(page.leasts, page.things)])
