"""What DOC.md says in [39] and [40], worked out slowly and plainly."""

from slow import outcomes
from slow_pasts import after


def stands_at(vault, reader, looks):
    """All tuples of the state and the stand behind pasts with these looks, up to the last one; for each look from all ahead of it."""
    held = [(vault.first(), reader.first())]
    for look in looks:
        for state, stand in held:
            for call in vault.calls():
                both = (after(vault, state, call), reader.after(stand, call))
                if both not in held:
                    held.append(both)
        held = [both for both in held if both[0] == look]
    return held


def known(vault, reader, looks):
    said = {reader.marked(stand) for _, stand in stands_at(vault, reader, looks)}
    return {(True,): "yes", (False,): "no"}.get(tuple(said), "open")


def known_by_contents(vault, reader, looks, which):
    """Likewise, of somebody who sees only the contents at the looks."""
    held = [(vault.first(), reader.first())]
    for look in looks:
        for state, stand in held:
            for call in vault.calls():
                both = (outcomes(vault, state, call)[0][2], reader.after(stand, call))
                if both not in held:
                    held.append(both)
        held = [both for both in held if which[both[0]] == which[look]]
    said = {reader.marked(stand) for _, stand in held}
    return {(True,): "yes", (False,): "no"}.get(tuple(said), "open")
