"""Rows of sums about chains, drains and those that stay: what does not hold."""

from endonce.asked import breaks


def bad_chains(facts):
    """Tags of members that do not fit to those ahead of them in their chain."""
    return [one.tag for one in facts.asked.values() if not follows_well(facts, one)]


def breakers_of(facts, one):
    """The tags of the members ahead whose ends let nothing go on."""
    rows = [facts.asked[tag] for tag in one.members_ahead() if tag in facts.ends]
    return [other.tag for other in rows if breaks(other, facts.ends[other.tag], facts.began(other.tag))]


def follows_well(facts, one):
    """Whether this member fits to those ahead of it."""
    began = facts.began(one.tag)
    if began and any([tag in facts.last for tag in one.members_ahead()]):
        return False
    breakers = breakers_of(facts, one)
    word = facts.word_of_end(one.tag)
    if len(breakers) > 0 and (began or word not in ("broken", "cancelled", "stopped")):
        return False
    return word != "broken" or is_broken_well(facts, one, breakers)


def is_broken_well(facts, one, breakers):
    """Whether this member was broken by one that could break it, as all between both."""
    by = facts.ends[one.tag][1]
    if by not in breakers or not breaks_others(facts, by):
        return False
    between = one.members_ahead()[facts.asked[by].rank + 1:]
    return all([facts.ends.get(tag) == ("broken", by) for tag in between])


def breaks_others(facts, tag):
    """Whether this end, which breaks a chain, is one for which others are told "broken"."""
    result = facts.ends[tag]
    if result[0] == "cancelled":
        return facts.asked[result[1]].deed[0] != "cancelall"
    return result[0] not in ("broken", "stopped")


def bad_ahead(facts):
    """Tags of those that stay although something behind them happened only when they had ended."""
    return [tag for tag in facts.last if not stays_well(facts, facts.asked[tag])]


def stays_well(facts, one):
    """Whether nothing that happened shows that this request had ended."""
    if "stop" in [event[0] for event, _ in facts.pairs[one.at:]]:
        return False
    for other in facts.asked.values():
        if other.deed == ("cancel", one.tag) and facts.word_of_end(other.tag) == "gone":
            return False
        if other.number > one.number and shows_end(facts, other, one):
            return False
    return True


def shows_end(facts, other, one):
    """Whether what the other, who stands behind, did shows that this one had ended."""
    if facts.word_of_end(other.tag) == "all":
        return True
    if not facts.began(other.tag):
        return False
    if "drain" in other.flags:
        return True
    return "drain" in one.flags and other.tag not in one.chain and other.owner not in one.chain
