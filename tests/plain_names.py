"""The names in a text of code, and which of them L12 of ../shared/LANGUAGE.md bars."""

import ast
import re

BARRED = re.compile(r"_(cold|tuplegetter|outside|record|written_out|member_names)[0-9_]*")
BARRED_STARTS = ("_pe_", "_dcw_", "_enum_", "_cm_", "_twin_re_", "_lay_", "_law_", "_stub_", "_sre", "_WallAttr")
# These stand nowhere, also not in comments and strings.
BARRED_WORDS = re.compile(r"\b(_wall|_WallAttr)\b")
PLAIN = re.compile(r"_?[A-Za-z][A-Za-z0-9_]*")
DOUBLE = re.compile(r"__[a-z]+__")


def names_in(text):
    """Each name in a text of code: its row, the name and its kind."""
    walked = list(ast.walk(ast.parse(text)))
    methods = [row for node in walked if isinstance(node, ast.ClassDef) for row in node.body]
    return [(node.lineno, name, kind_of(node, methods)) for node in walked for name in names_of(node)]


def names_of(node):
    """The names that stand in a node itself."""
    # A string may be the name of a slot, or of an attribute that is read by getattr.
    if isinstance(node, ast.Constant):
        return [node.value] if isinstance(node.value, str) else []
    values = [value for _, value in ast.iter_fields(node)]
    words = [word for value in values for word in (value if isinstance(value, list) else [value])]
    return [name for word in words if isinstance(word, str) for name in word.split(".")]


def kind_of(node, methods):
    """What the names of a node are, as far as L12 tells it apart."""
    if isinstance(node, ast.Constant):
        return "text"
    if isinstance(node, ast.ClassDef):
        return "class"
    if isinstance(node, ast.Attribute) or any(node is method for method in methods):
        return "member"
    stored = isinstance(node, ast.arg) or (isinstance(node, ast.Name) and isinstance(node.ctx, ast.Store))
    return "stored" if stored else "other"


def is_barred(name, kind="other"):
    """Tell whether L12 bars a name of the kind."""
    if BARRED.fullmatch(name) or name.startswith(BARRED_STARTS):
        return True
    if name.startswith("_wall") and kind not in ("member", "text"):
        return True
    if name == "_":
        return kind not in ("stored", "text")
    return kind != "text" and not is_plain(name, kind)


def is_plain(name, kind):
    """Tell whether a name has the form that L12 asks for; L5 and L8 tell which have two underscores."""
    if kind == "class":
        return PLAIN.fullmatch(name) is not None and not name.startswith("_")
    return PLAIN.fullmatch(name) is not None or DOUBLE.fullmatch(name) is not None


def barred_in(text):
    """What breaks L12 in a text of code: the list of (row, name or word)."""
    found = [(row, name) for row, name, kind in names_in(text) if is_barred(name, kind)]
    for row, line in enumerate(text.split("\n"), 1):
        found += [(row, word) for word in BARRED_WORDS.findall(line)]
    return sorted(found)
