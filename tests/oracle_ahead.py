"""Reached stands, costs, losses and savings, worked out anew and slowly from the words of the document."""

import itertools

from skipahead.ahead.forward import Forward
from skipahead.errors import InvalidRow, InvalidServer
from skipahead.send.senders import SenderRun
from tests.model import MARK
from tests.oracle import Lists, Walk, rows


def behind_fates(lists, items):
    """The stands behind a list and each of its fates."""
    found = []
    for fate in lists.fates(items):
        run, _ = lists.behind(items, fate)
        found.append(("end", run[0]) if isinstance(run, tuple) else run.stand())
    return found


def reached_model(program, window, facts):
    """Each reached stand with its list, its paper and the fates."""
    walk = Walk(program)
    walk.to_stand()
    todo, found = [walk.stand()], {}
    while todo:
        stand = todo.pop()
        if stand not in found:
            lists = Lists(program, stand, facts)
            items = lists.forced_list(window)
            found[stand] = (items, lists.paper(window), lists.fates(items))
            if found[stand][1][0] != "ends":
                todo += behind_fates(lists, items)
    return found


def cost_model(found):
    """The cost, stand by stand."""
    total = 0
    for items, paper, fates in found.values():
        total += 1 + len(items)
        if paper[0] != "ends":
            total += 2 * len({fate[:many] for fate in fates for many in range(1, len(fate) + 1)}) + 4 * len(fates)
    return total


def allowed_rows(program, facts, most):
    """All rows of up to so many outcomes that fit a program and that the facts leave."""
    for row in rows(program, most):
        try:
            run = Forward(program, row, window=1)
            run.go(many=200)
        except (InvalidRow, InvalidServer):
            continue
        if facts is None or facts.allows(run.work):
            yield row


def is_slower(program, sender, row, window, facts):
    """Whether a sender that does the same is slower along a row."""
    ahead, hand = Forward(program, row, window=window, facts=facts), SenderRun(sender, row, window=window)
    ahead.go(many=300)
    hand.go(many=300)
    assert ahead.state in ("paused", "ended") and hand.state in ("paused", "ended")
    told = [run.progress[:-1] if run.state == "paused" else run.progress for run in (ahead, hand)]
    if any(one != other for one, other in zip(*told)):
        return True
    return (ahead.state == "ended" and hand.waits > ahead.waits) or (hand.state == "ended" and ahead.waits > hand.waits)


def losses_model(program, stand, items, facts):
    """All losses of a right list."""
    found = set()
    for many in range(len(items) + 1):
        for fate in Lists(program, stand, facts).fates(items[:many]):
            deal = stand[2] if len(stand) == 3 else "fresh"
            kept = []
            for index, (item, answer) in enumerate(zip(items, fate)):
                if item == MARK:
                    if deal == "open":
                        kept.append(index)
                    deal = "fresh"
                else:
                    deal = "broken" if answer in ("failed", "skipped") else "open"
            found.add(tuple(kept))
    return tuple(sorted(found))


def saves_model(lists, items, outs):
    """Whether outs save the wait behind a list."""
    fates = []
    for fate in lists.fates(items):
        used = [(item[1], answer) for item, answer in zip(items, fate) if item != MARK and answer != "skipped"]
        if not set(used) & set(outs):
            fates.append(fate)
    things = {lists.thing(items, fate) for fate in fates}
    return (len(things) == 1 and min(things)[0] == "end") or lists.forced(items, fates) is not None


def savings_model(program, lists, items):
    """All least outs, found among all outs, the fewest pairs first."""
    pairs = [(command, outcome) for command in program.book for outcome in lists.choices[command]]
    found = []
    for many in range(len(pairs) + 1):
        for outs in itertools.combinations(pairs, many):
            left = [[one for one in lists.choices[name] if one != "failed" and (name, one) not in outs] for name in program.book]
            if all(left) and not any(set(least) <= set(outs) for least in found) and saves_model(lists, items, outs):
                found.append(outs)
    return tuple(sorted(found))
