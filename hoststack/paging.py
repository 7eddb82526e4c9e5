"""Paging: memories of processes in a few shared frames; pages that do not fit are kept in a swap space."""

from hoststack.errors import SpaceFault

PAGE_WORDS = 8
MOST_PAGES = 64
SWAP_PAGES = 1000


class Frame:
    """A frame: its words, which (space, page) pairs share it, and whether it was used lately."""

    def __init__(self, words):
        self.words = list(words)
        self.owners = []
        self.used = True


class Pager:
    """Frames by number, a hand that goes round them, swapped pages, and how often each thing happened."""

    def __init__(self, count, slots=SWAP_PAGES):
        if count < 1:
            raise SpaceFault('there is no frame')
        self.frames = [None] * count
        self.slots = slots
        self.hand = 0
        self.swapped = {}
        self.spaces = {}
        self.last = 0
        self.faults = 0
        self.evictions = 0
        self.copies = 0

    def next_number(self):
        """Return the number of a new space."""
        self.last = self.last + 1
        return self.last

    def frame_of(self, space, page):
        """Return the frame of a page, which is brought into one if it is in none."""
        if space.table[page] is None:
            key = (space.number, page)
            place = self.free_place(key)
            self.put_frame(place, Frame(self.swapped.pop(key, (0,) * PAGE_WORDS)), space, page)
            self.faults = self.faults + 1
        frame = self.frames[space.table[page]]
        frame.used = True
        return frame

    def own_frame(self, space, page):
        """Return the frame of a page that no other space shares; a shared one is copied."""
        frame = self.frame_of(space, page)
        if len(frame.owners) == 1:
            return frame
        key = (space.number, page)
        place = self.free_place(key)
        # The shared frame may have been the one to go; its words and the other owners' pages are kept then.
        frame.owners = [owner for owner in frame.owners if owner != key]
        self.put_frame(place, Frame(frame.words), space, page)
        self.copies = self.copies + 1
        return self.frames[place]

    def put_frame(self, place, frame, space, page):
        """Let a frame stand at a place, for a page."""
        self.frames[place] = frame
        self.share(place, space, page)

    def share(self, place, space, page):
        """Let a page have the frame at a place, beside others."""
        self.frames[place].owners.append((space.number, page))
        self.spaces[space.number] = space
        space.table[page] = place

    def free_place(self, key):
        """Return the place of a frame that nobody has, after an eviction if there is none.

        The page of a key is the one for which the frame is wanted: where it stands now is not kept.
        """
        for place, frame in enumerate(self.frames):
            if frame is None:
                return place
        place = self.next_to_go()
        owners = [owner for owner in self.frames[place].owners if owner != key]
        spare = 1 if key in self.swapped else 0
        if len(self.swapped) + len(owners) > self.slots + spare:
            raise SpaceFault('swap is used up')
        self.move_hand(place)
        self.evict(place, owners)
        return place

    def round_from_hand(self):
        """Return the places of all frames, from the hand on."""
        return [(self.hand + step) % len(self.frames) for step in range(len(self.frames))]

    def next_to_go(self):
        """Return the place of the first frame from the hand on that was not used lately."""
        for place in self.round_from_hand():
            if not self.frames[place].used:
                return place
        return self.hand

    def move_hand(self, place):
        """Move the hand on past a frame that goes; what it passes does not count as used lately any more."""
        passed = self.round_from_hand()
        if not self.frames[place].used:
            passed = passed[:passed.index(place)]
        for other in passed:
            self.frames[other].used = False
        self.hand = (place + 1) % len(self.frames)

    def evict(self, place, owners):
        """Keep the page of a frame in the swap space for so many of its owners."""
        frame = self.frames[place]
        for number, page in frame.owners:
            self.spaces[number].table[page] = None
        for owner in owners:
            self.swapped[owner] = tuple(frame.words)
        self.frames[place] = None
        self.evictions = self.evictions + 1

    def release(self, space):
        """Give all pages of a space back."""
        for page, place in enumerate(space.table):
            key = (space.number, page)
            if place is None:
                self.swapped.pop(key, None)
            else:
                self.leave_frame(place, key)
        space.table = []
        self.spaces.pop(space.number, None)

    def leave_frame(self, place, key):
        """Let a page share a frame no more."""
        frame = self.frames[place]
        frame.owners = [owner for owner in frame.owners if owner != key]
        if frame.owners == []:
            self.frames[place] = None


class Space:
    """A memory of words: its number, its pager, and the frame of each page, None for one that is in none."""

    def __init__(self, pager, pages):
        if not 0 <= pages <= MOST_PAGES:
            raise SpaceFault('a memory has at most 64 pages')
        self.pager = pager
        self.number = pager.next_number()
        self.table = [None] * pages

    def word_count(self):
        """Return the number of words."""
        return len(self.table) * PAGE_WORDS

    def check_address(self, address):
        """Raise SpaceFault for an address outside."""
        if not 0 <= address < self.word_count():
            raise SpaceFault('an address is outside')

    def load_word(self, address):
        """Return the word at an address."""
        self.check_address(address)
        return self.pager.frame_of(self, address // PAGE_WORDS).words[address % PAGE_WORDS]

    def store_word(self, address, word):
        """Change the word at an address."""
        self.check_address(address)
        self.pager.own_frame(self, address // PAGE_WORDS).words[address % PAGE_WORDS] = word

    def grow(self, pages):
        """Add pages of zeros; raise SpaceFault for more than 64 pages in all."""
        if pages < 0 or len(self.table) + pages > MOST_PAGES:
            raise SpaceFault('a memory has at most 64 pages')
        self.table.extend([None] * pages)

    def forked(self):
        """Return a memory of the same words that shares frames until one of the two writes; raise SpaceFault."""
        swapped = [page for page in range(len(self.table)) if (self.number, page) in self.pager.swapped]
        if len(self.pager.swapped) + len(swapped) > self.pager.slots:
            raise SpaceFault('swap is used up')
        child = Space(self.pager, len(self.table))
        for page in swapped:
            self.pager.swapped[(child.number, page)] = self.pager.swapped[(self.number, page)]
        for page, place in enumerate(self.table):
            if place is not None:
                self.pager.share(place, child, page)
        return child

    def all_words(self):
        """Return all words."""
        return tuple([self.load_word(address) for address in range(self.word_count())])
