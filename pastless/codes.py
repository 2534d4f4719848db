"""A body as one tuple of rows without rows in them, so that a call can be stopped and gone on with at any row.

The rows of [8] stay as they are, but for "if" and "times", of which these rows are made:
- ("unless", E, place): if the value is 0, it goes on at the place;
- ("on", place): it goes on at the place;
- ("rounds", E): so many rounds are begun;
- ("round", place): the next round; if there is none, it goes on at the place.
"""


def code_of(body):
    """The code of a body. At its end stands the answer of a body that comes to its end."""
    code = []
    put_rows(code, body)
    code.append(("answer", 0))
    return tuple(code)


def put_rows(code, rows):
    """Puts rows to the end of the code."""
    for row in rows:
        if row[0] == "if":
            put_if(code, row)
        elif row[0] == "times":
            put_times(code, row)
        else:
            code.append(row)


def put_if(code, row):
    """Puts a row "if": its first rows, then its second ones."""
    test = len(code)
    code.append(())
    put_rows(code, row[2])
    over = len(code)
    code.append(())
    code[test] = ("unless", row[1], len(code))
    put_rows(code, row[3])
    code[over] = ("on", len(code))


def put_times(code, row):
    """Puts a row "times"."""
    code.append(("rounds", row[1]))
    top = len(code)
    code.append(())
    put_rows(code, row[2])
    code.append(("on", top))
    code[top] = ("round", len(code))
