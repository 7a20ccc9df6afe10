"""The standings that are reached while a net is gone and a pattern is looked for."""

from alsoshown.atoms import places_in
from alsoshown.ways import traced


class Standings:
    """The standings that can be reached by these lanes from (post, ()), for each of these posts.

    A standing is kept as a tuple of its post and the bit mask of its atoms. leads gives for each standing the lanes
    that do not complete the pattern there, each with the standing to which it leads.
    """

    def __init__(self, net, posts, lanes, pattern):
        atoms = pattern.atoms
        rows = {post: [] for post in net.posts}
        for lane in lanes:
            rows[net.start_of(lane)].append((lane, net.end_of(lane), atoms.taking(lane)))
        came = {(post, 0): None for post in posts}
        leads = {}
        completed = []
        queue = list(came)
        at = 0
        while at < len(queue):
            here = queue[at]
            at = at + 1
            post, mask = here
            leads[here] = []
            # A word may begin at every place, so what follows the beginning is always ahead.
            ahead = atoms.after(mask | atoms.begin)
            for lane, end, taking in rows[post]:
                there = (end, ahead & taking)
                if (ahead & taking & atoms.last) > 0:
                    completed.append((here, lane))
                    continue
                leads[here].append((lane, there))
                if there not in came:
                    came[there] = (here, lane)
                    queue.append(there)
        self.leads = leads
        self._came = came
        self._completed = completed

    def completing(self):
        """The lanes of a shortest walk from a (post, ()) whose last lane completes the pattern, or None."""
        if len(self._completed) == 0:
            return None
        standing, lane = self._completed[0]
        return traced(self._came, standing) + [lane]


def written_out(standing):
    """The standing as a tuple of its post and the tuple of its atoms."""
    post, mask = standing
    return (post, tuple(places_in(mask)))
