"""Device: blocks of bytes that are kept once they are flushed; a crash keeps any of the others."""

from hoststack.errors import DeviceError

KEPT = 1
HALF_KEPT = 2


class Device:
    """Kept blocks, blocks that wait for a flush, and a fuse that counts down to a crash."""

    def __init__(self, block_size, count, blocks=None):
        self.block_size = block_size
        self.total = count
        self.blocks = {} if blocks is None else dict(blocks)
        self.waiting = []
        self.fuse = None
        self.dead = False
        self.steps = 0

    def arm(self, steps):
        """Let the device crash at the step after so many more; None for never."""
        self.fuse = steps

    def check_alive(self):
        """Raise DeviceError if the device has crashed."""
        if self.dead:
            raise DeviceError('the device has crashed')

    def step(self):
        """Count a step; raise DeviceError if the device has crashed, or crashes now."""
        self.check_alive()
        if self.fuse is not None and self.fuse == 0:
            self.dead = True
            raise DeviceError('the device crashes')
        if self.fuse is not None:
            self.fuse = self.fuse - 1
        self.steps = self.steps + 1

    def check_number(self, number):
        """Raise DeviceError for a block that does not exist."""
        if not 0 <= number < self.total:
            raise DeviceError('a block does not exist')

    def check_block(self, number, data):
        """Raise DeviceError for a block that does not exist, or bytes of another size."""
        if len(data) != self.block_size:
            raise DeviceError('a block has another size')
        self.check_number(number)

    def kept(self, number):
        """Return the bytes of a block that a crash leaves for certain."""
        return self.blocks.get(number, (0,) * self.block_size)

    def read(self, number):
        """Return the bytes last written to a block, zeros if it was never written."""
        # What a crash leaves of the blocks is told by the restarted device alone.
        self.check_alive()
        self.check_number(number)
        for other, data in reversed(self.waiting):
            if other == number:
                return data
        return self.kept(number)

    def write_block(self, number, data):
        """Write a block; it waits for a flush; raise DeviceError for bytes of another size."""
        self.check_block(number, data)
        self.step()
        self.waiting.append((number, tuple(data)))

    def flush(self):
        """Keep all written blocks."""
        self.step()
        for number, data in self.waiting:
            self.blocks[number] = data
        self.waiting = []

    def restarted(self, choices):
        """Return a device as it may be found after a crash.

        There is a choice for each waiting write, in order (0 after all choices): 0 loses it, 1 keeps it, 2 keeps
        its first half alone.
        """
        found = Device(self.block_size, self.total, self.blocks)
        half = self.block_size // 2
        for (number, data), choice in zip(self.waiting, choices):
            if choice == KEPT:
                found.blocks[number] = data
            elif choice == HALF_KEPT:
                found.blocks[number] = data[:half] + found.kept(number)[half:]
        return found
