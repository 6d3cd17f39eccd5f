"""Runs the document's Python sessions as they stand there."""

from tests.values import H, R, V, W


def run_session(case, text):
    """Run each line behind >>> of the text, and compare what it tells with the line below it."""
    names = {"W": W, "R": R, "V": V, "H": H}
    lines = text.strip().split("\n")
    for at, line in enumerate(lines):
        if not line.startswith(">>> "):
            continue
        wanted = lines[at + 1] if at + 1 < len(lines) and not lines[at + 1].startswith(">>> ") else None
        with case.subTest(line=line):
            case.assertEqual(outcome(line[4:], names), wanted)


def outcome(source, names):
    """Return what a session shows for a line: the result's repr, or which error is raised with which fields."""
    if is_statement(source):
        exec(source, names)
        return None
    try:
        return repr(eval(source, names))
    except (ValueError, LookupError) as error:
        fields = ", ".join([repr(value) for value in vars(error).values()])
        return f"raises {type(error).__name__}({fields})"


def is_statement(source):
    """Return whether the line is a statement, of which a session shows nothing."""
    try:
        compile(source, "session", "eval")
    except SyntaxError:
        return True
    return False
