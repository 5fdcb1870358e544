"""The faults of a text: their codes, and the error that carries one."""

TOO_LONG = 1
NO_TOKEN = 2
NOT_ALLOWED = 3
TOO_MANY = 4
NAME_TAKEN = 5
NAME_MISSING = 8
TOO_MANY_SIGNS = 9
TOO_DEEP = 10


class Fault(Exception):
    def __init__(self, code, place):
        self.code = code
        self.place = place
