"""Works, written as a text that is read as them."""


def shown(works):
    """Write works, a row for each part, better, spare, gate, bringing and for the top."""
    parts, betters, spares, gates, brings, top = works
    rows = [f"part {name} {number}/{among}" for name, number, among in parts]
    rows.extend([f"better {name} {number}/{among} {price}" for name, number, among, price in betters])
    rows.extend([f"spare {name} {price} {most}" for name, price, most in spares])
    rows.extend([gate_text(name, least, children) for name, least, children in gates])
    rows.extend([f"brings {one} {other}" for one, other in brings])
    rows.append(f"top {top}")
    return "\n".join(rows)


def gate_text(name, least, children):
    """Write a gate."""
    return " ".join(["gate", name, least_text(least, len(children)), *children])


def least_text(least, many):
    """Write how many of so many children must fail."""
    # With one child any and all are one; the document has any go ahead.
    if least == 1:
        return "any"
    if least == many:
        return "all"
    return str(least)
