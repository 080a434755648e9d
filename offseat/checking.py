"""Whether what is handed in is of the kind that is asked for."""

from offseat.errors import BadShuns


def is_whole_number(value):
    # Python counts True and False among its whole numbers; here they are none.
    return isinstance(value, int) and not isinstance(value, bool)


def refuse_bad_shuns(shuns):
    # The words never show the value: a number of very many digits can't be written out.
    if not isinstance(shuns, list):
        raise BadShuns("shuns must be a list")
    for seat in shuns:
        if not is_whole_number(seat):
            raise BadShuns("shuns must hold whole numbers alone")
        if seat < -1 or seat >= len(shuns):
            raise BadShuns("a shun must be -1 or a seat that is there")
