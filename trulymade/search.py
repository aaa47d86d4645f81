"""The search for the least row that tells two ways of writing apart.

What is compared has first(prefix), the state behind a prefix, and
after(state, sign), the state behind one sign more: None where what is written
up to there, with what is written at the end, is unlike. signs(state) is the
list of the signs, ascending, that need to be looked at. A state alone tells
all that can follow, so each one is gone on from once, in the order of rows.
"""


def least_unlike(compared, prefixes):
    """The least row beginning with a prefix for which they are unlike, or None.

    The prefixes are ascending rows of one length.
    """
    trail = {}
    states = []
    for prefix in prefixes:
        state = compared.first(prefix)
        if state is None:
            return prefix
        if state not in trail:
            trail[state] = (None, prefix)
            states.append(state)
    at = 0
    while at < len(states):
        state = states[at]
        for sign in compared.signs(state):
            after = compared.after(state, sign)
            if after is None:
                return row_to(trail, state) + (sign,)
            if after not in trail:
                trail[after] = (state, (sign,))
                states.append(after)
        at += 1
    return None


def row_to(trail, state):
    """The row by which a state was first found."""
    parts = []
    while state is not None:
        state, part = trail[state]
        parts.append(part)
    row = []
    for part in reversed(parts):
        row.extend(part)
    return tuple(row)


def unlike_prefixes(compared, prefixes):
    """The list of the prefixes of rows for which they are unlike, in order."""
    firsts = [compared.first(prefix) for prefix in prefixes]
    unlike = unlike_states(compared, [state for state in firsts if state is not None])
    return [prefix for prefix, state in zip(prefixes, firsts) if state is None or state in unlike]


def unlike_states(compared, firsts):
    """A dict that has the states behind which they are unlike, among all that can be reached."""
    unlike = {}
    sources = {}
    states = []
    for state in firsts:
        if state not in sources:
            sources[state] = []
            states.append(state)
    at = 0
    while at < len(states):
        state = states[at]
        for sign in compared.signs(state):
            after = compared.after(state, sign)
            if after is None:
                unlike[state] = True
                continue
            if after not in sources:
                sources[after] = []
                states.append(after)
            sources[after].append(state)
        at += 1
    return with_sources(unlike, sources)


def with_sources(found, sources):
    """The found states and all from which one of them can be reached."""
    reached = {state: True for state in found}
    states = list(found)
    while states:
        state = states.pop()
        for source in sources[state]:
            if source not in reached:
                reached[source] = True
                states.append(source)
    return reached
