"""Leading: steps from a web to another, or from a table to another, taken from both ends until they meet."""


def led_back(four):
    return (four[0], four[3], four[2], four[1])


def steps_between(one, two, nearer, can_step, stepped):
    first = one
    last = two
    from_first = []
    to_last = []
    while first != last:
        four = nearer(first, last)
        # A step that cannot begin at the first can end at the last: taken back there, it brings the two nearer too.
        if can_step(first, four):
            first = stepped(first, four)
            from_first.append(four)
        else:
            last = stepped(last, led_back(four))
            to_last.append(four)
    return from_first + list(reversed(to_last))
