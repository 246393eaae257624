"""What conditions and changes name: rooms, seats and clocks."""

from searchback.clauses import (
    NO_SEATS, Apart, InRoom, Is, IsNot, NotInRoom, Put, SamePerson, ToRoom,
)


def named_things(piece):
    """The pairs (sort, label) of the rooms, seats and clocks that a condition or change names."""
    if isinstance(piece, (InRoom, NotInRoom, ToRoom)):
        return (("room", piece.room),)
    if isinstance(piece, (Is, IsNot, Put)):
        seats = (piece.seat,) if piece.what in NO_SEATS else (piece.seat, piece.what)
        return tuple([("seat", seat) for seat in seats])
    if isinstance(piece, (SamePerson, Apart)):
        return ()
    return (("clock", piece.clock),)
