"""The search for least texts."""


def least_text(start, steps, is_goal):
    """The least text by whose signs steps lead from a stand to a goal, or None.

    steps(stand) lists (sign, next stand), the signs rising; so stands are met by their least texts.
    """
    came = {start: None}
    stands = [start]
    done = 0
    while done < len(stands):
        stand = stands[done]
        done += 1
        if is_goal(stand):
            return text_to(came, stand)
        for sign, to in steps(stand):
            if to not in came:
                came[to] = (sign, stand)
                stands.append(to)
    return None


def text_to(came, stand):
    """The text by which one came to a stand: came tells of each stand the last sign and the stand ahead."""
    signs = []
    while came[stand] is not None:
        sign, stand = came[stand]
        signs.append(sign)
    return "".join(signs[::-1])
