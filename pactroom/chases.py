"""Chases: along the pacts that wait for one another, to find those that wait in a ring."""


def victim(path):
    return max([link[0] for link in path], key=lambda p: (p[1], p[0]))


def chased(locks, home, p, path):
    # Who doesn't wait is behind nobody. Each pact chased on stands in no link yet, so the walk comes to an end.
    ahead = locks.behind(p)
    if ahead is None:
        return ("none", None, path)
    while True:
        path = path + ((p, home),)
        if ahead == path[0][0]:
            return ("ring", victim(path), path)
        if ahead in [link[0] for link in path]:
            return ("none", None, path)
        further = locks.behind(ahead)
        if further is None:
            return ("seek", ahead, path)
        p = ahead
        ahead = further
