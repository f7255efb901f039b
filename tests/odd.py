"""Values that are not plain, and values that a function which accepts any value must bear."""


class Stubborn:
    """An object that refuses to be compared, measured, iterated, hashed, tested and shown."""

    def _refuse(self, *_):
        raise RuntimeError("this object must not be asked")

    __eq__ = __ne__ = __lt__ = __le__ = __gt__ = __ge__ = _refuse
    __len__ = __iter__ = __hash__ = __bool__ = __contains__ = __getitem__ = _refuse
    __str__ = __repr__ = __int__ = __index__ = _refuse


def not_plain():
    """Return pairs of a label and a value that is not plain at any depth."""
    endless = []
    endless.append(endless)
    return [
        ("None", None), ("True", True), ("False", False),
        ("a list", []), ("a list with items", [1, "a"]), ("a list that contains itself", endless),
        ("bytes", b""), ("bytes with items", b"ab"), ("a bytearray", bytearray(b"ab")),
        ("a float", 1.0), ("not a number", float("nan")), ("infinity", float("inf")), ("a complex", 1j),
        ("a dict", {}), ("a dict with items", {1: "a"}), ("a set", {1, 2}), ("a frozenset", frozenset((1,))),
        ("a range", range(3)), ("an iterator", iter((1, 2))), ("an object", object()),
        ("a class", int), ("a function", not_plain), ("an ellipsis", ...), ("a stubborn object", Stubborn()),
    ]
