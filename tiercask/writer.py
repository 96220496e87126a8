"""Scripts and numbers as they are written."""


def number_shown(number):
    top = number[0]
    bottom = number[1]
    if bottom == 1:
        return f"{top}"
    return f"{top}/{bottom}"


def row_of(deed):
    words = list(deed)
    if deed[0] == "do":
        words = ["do", deed[1]] + list(deed[2])
    elif deed[0] in ("bring", "move", "part"):
        words[3] = number_shown(deed[3])
    return " ".join(words)


def rows_of(deeds):
    rows = []
    for deed in deeds:
        if deed[0] == "times":
            many = deed[1]
            rows.append(f"times {many}")
            rows.extend(rows_of(deed[2]))
            rows.append("end")
        else:
            rows.append(row_of(deed))
    return rows


def shown(script):
    rows = []
    for rule in script[0]:
        rows.append(" ".join(["rule", rule[0]] + list(rule[1])))
        rows.extend(rows_of(rule[2]))
        rows.append("end")
    return "\n".join(rows + rows_of(script[1]))
