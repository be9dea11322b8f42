"""The words of the document on walks, settling and slips, read plainly; slow, for small webs."""

from staletags.standings import after, barred, begun


def asks_of(standing):
    return [("back" if held else "give", room) for room, (held, _) in enumerate(standing)]


def levels(start, steps):
    """For each number of asks, a dict from the states that come behind so many, and no fewer, to their least rows."""
    level = {start: ()}
    seen = set(level)
    while level:
        yield level
        following = {}
        for state, row in level.items():
            for ask, behind in steps(state):
                longer = row + (ask,)
                if behind not in seen and (behind not in following or longer < following[behind]):
                    following[behind] = longer
        seen.update(following)
        level = following


def word_for(web, k, standing, room, tag):
    if tag is None:
        return "stuck"
    if type(tag) is not int or not 0 <= tag < k:
        return "odd"
    return "barred" if tag in barred(web, standing, room) else "kept"


def kept_steps(steady, web, k, standing):
    """The pairs of an ask and the standing behind it, of all asks for which the keeper is kept."""
    pairs = []
    for ask in asks_of(standing):
        if ask[0] == "back":
            pairs.append((ask, after(web, standing, ask)))
            continue
        tag = steady(web, k, standing, ask[1])
        if word_for(web, k, standing, ask[1], tag) == "kept":
            pairs.append((ask, after(web, standing, ask + (tag,))))
    return pairs


def plain_walked(steady, web, k):
    """What walked tells, and how many standings count for its bound."""
    many = 0
    come = []
    for level in levels(begun(web), lambda standing: kept_steps(steady, web, k, standing)):
        many += len(level)
        come += level
        falls = []
        for standing, row in level.items():
            for word, room in asks_of(standing):
                if word == "give":
                    word = word_for(web, k, standing, room, steady(web, k, standing, room))
                    if word != "kept":
                        falls.append((row + (("give", room),), word))
        if falls:
            return ("falls",) + min(falls), many
    return ("right", sorted(come)), many


def plain_passing(steady, web, k, slip):
    """What passing tells of a keeper that is right, and how many pairs count for its bound."""
    room, age = slip[1], slip[-1]

    def steps(state):
        for ask, behind in kept_steps(steady, web, k, state[0]):
            given = behind[room][1][:1] if ask == ("give", room) else ()
            yield ask, (behind, (given + state[1])[:age + 1])

    many = 0
    for level in levels((begun(web), ()), steps):
        let = []
        for (standing, tags), row in level.items():
            held, shown = standing[slip[2] if slip[0] == "near" else room]
            if held and tags[age:] and tags[age] == shown[0]:
                let.append(row)
        if let:
            return min(let), many
        many += len(level)
    return None, many


def clean_steps(web, k, standing):
    """For each ask, the standings that can be there behind it by a tag that is not barred."""
    steps = {}
    for ask in asks_of(standing):
        if ask[0] == "back":
            steps[ask] = [after(web, standing, ask)]
        else:
            out = barred(web, standing, ask[1])
            steps[ask] = [after(web, standing, ask + (tag,)) for tag in range(k) if tag not in out]
    return steps


def clean_standings(web, k):
    """All standings that come by tags that are not barred."""
    come = {begun(web)}
    fresh = list(come)
    while fresh:
        standing = fresh.pop()
        for behind in clean_steps(web, k, standing).values():
            fresh += [other for other in behind if other not in come]
            come.update(behind)
    return come


def is_kept(web, k):
    """Whether a keeper can be kept for ever: standings from which it must fall are struck out till none is left."""
    steps = {standing: clean_steps(web, k, standing) for standing in clean_standings(web, k)}
    safe = set(steps)
    while True:
        struck = [s for s in safe if not all(any(x in safe for x in behind) for behind in steps[s].values())]
        if not struck:
            return begun(web) in safe
        safe.difference_update(struck)


def beats(web, k, plan):
    """Whether all runs of a plan end at once with an ask for which all tags are barred."""
    def ends(standing, ahead):
        if standing in ahead or standing not in plan:
            return False
        behind = clean_steps(web, k, standing)[plan[standing]]
        return all(ends(other, ahead + [standing]) for other in behind)

    return ends(begun(web), [])
