"""Reading of tokens as a program: what's told before each, how deep it stands, and the groups."""

from laidout.forms import FORMS, TOLD

END = "END"


class Group:
    """The tokens that a group holds: from begin to last."""

    def __init__(self, begin, inner):
        self.begin = begin
        # The first token before which a comment is one in the group, and the last such one.
        self.inner = inner
        self.end = -1
        self.last = -1


class Frame:
    """Something that is being read and that is, or may turn out to be, a group."""

    def __init__(self, begin):
        self.begin = begin
        self.group = None


class Reader:
    """What is known of the tokens that were read, and what must come behind them."""

    def __init__(self, kinds, commented):
        self.kinds = kinds
        self.commented = commented
        self.told = []
        self.depths = []
        self.groups = []
        self.declarations = []
        self.awaited = ["Program"]
        self.frames = []
        self.telling = "none"
        self.blocks = 0

    def next_kind(self):
        """Give back the kind of the next token."""
        return self.kinds[len(self.told)] if len(self.told) < len(self.kinds) else END

    def read(self):
        """Read tokens as far as they may stand there, and tell whether they are a program."""
        while self.awaited:
            item = self.awaited.pop()
            if item in FORMS:
                fit = self.unfold(item)
            elif item in TOLD:
                self.telling = TOLD[item]
                fit = True
            elif item.startswith("@"):
                self.act(item)
                fit = True
            else:
                fit = self.take(item)
            if not fit:
                return False
        return True

    def unfold(self, form):
        """Await what a form is made of; tell whether it may begin with the next token."""
        kind = self.next_kind()
        for heads, body in FORMS[form]:
            if not heads or kind in heads:
                self.awaited.extend(list(reversed(body.split())))
                return True
        return False

    def take(self, item):
        """Take the next token if it's the awaited one; tell whether it is."""
        if item != "!" and item != self.next_kind():
            return False
        self.told.append(self.telling)
        self.depths.append(self.blocks)
        self.telling = "none"
        return True

    def act(self, item):
        """Do what a form's word that begins with @ asks."""
        at = len(self.told)
        if item == "@decl":
            self.declarations.append(at)
        elif item == "@in":
            self.blocks += 1
        elif item == "@out":
            self.blocks -= 1
            self.telling = "none" if self.kinds[at - 1] == "{" and not self.commented[at] else "line"
        elif item == "@start":
            self.frames.append(Frame(at))
        elif item == "@may":
            self.make_group(1)
            self.telling = "may-one"
        elif item == "@end":
            self.end_group(at - 1, at - 1)
        elif item == "@first":
            self.frames.append(Frame(at))
            self.make_group(0)
            self.telling = "may-none"
        elif item == "@late":
            self.make_group(0)
            self.told[self.frames[-1].begin] = "may-none"
        elif item == "@last":
            self.end_group(at, at - 1)
            self.telling = "may-none"

    def make_group(self, apart):
        """Make a group of the innermost frame; apart is 1 where what stands before its first token isn't its own."""
        frame = self.frames[-1]
        if frame.group is None:
            frame.group = Group(frame.begin, frame.begin + apart)
            self.groups.append(frame.group)

    def end_group(self, end, last):
        """End the innermost frame, and its group if it is one."""
        group = self.frames.pop().group
        if group is not None:
            group.end = end
            group.last = last
