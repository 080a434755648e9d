"""Whether what is handed in is of the kind that is asked for."""

from offseat.errors import BadShuns


def is_whole_number(value):
    # Python counts True and False among its whole numbers; here they are none.
    return isinstance(value, int) and not isinstance(value, bool)


def are_shuns(value):
    if not isinstance(value, list):
        return False
    return all([is_whole_number(seat) and seat >= -1 and seat < len(value) for seat in value])


def refuse_bad_shuns(shuns):
    # The words never show the value: a number of very many digits can't be written out.
    if not are_shuns(shuns):
        raise BadShuns("shuns must be a list of whole numbers, each -1 or a seat that is there")


def is_seating(value, guests):
    if not isinstance(value, list) or len(value) != guests:
        return False
    taken = [False] * guests
    for seat in value:
        if not is_whole_number(seat) or seat < 0 or seat >= guests or taken[seat]:
            return False
        taken[seat] = True
    return True


def is_seating_off(value, shuns):
    if not is_seating(value, len(shuns)):
        return False
    return all([seat != shun for seat, shun in zip(value, shuns)])
