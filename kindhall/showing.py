"""Writing thoughts and sayings as texts."""

from kindhall.thoughts import JOINTS


def show_thought(thought):
    """The text that writes a thought."""
    sort = thought[0]
    if sort == "kind":
        return thought[1]
    if sort == "any":
        return "anything"
    if sort == "none":
        return "nothing"
    if sort == "both":
        return f"({show_thought(thought[1])} and {show_thought(thought[2])})"
    return f"({thought[1]} some {show_thought(thought[2])})"


def show_saying(saying):
    """The text that writes a saying."""
    sort = saying[0]
    if sort in JOINTS:
        return f"{sort} {show_thought(saying[1])} {JOINTS[sort]} {show_thought(saying[2])}"
    if sort == "tie":
        return f"tie {saying[1]} is {saying[2]}"
    if sort == "chain":
        return f"tie {saying[1]} {saying[2]} is {saying[3]}"
    if sort == "runs":
        return f"tie {saying[1]} runs on"
    if sort == "thing":
        return f"thing {saying[1]} is {show_thought(saying[2])}"
    return f"thing {saying[1]} {saying[2]} {saying[3]}"
