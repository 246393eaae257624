"""Judges of tables of two customs, and of partings."""

from searchback.abreast import parted_question
from searchback.alike import asked_of_both, check_covering, joint_of
from searchback.closed import Alike, Covers, Parting
from searchback.questions import Who
from searchback.walks import answer_of


def alike_fault(one, other, questions, found):
    """None if what was found shows whether the customs answer alike, else the word for why not."""
    asked = asked_of_both(one, other, tuple(questions))
    if isinstance(found, Alike):
        return _table_fault(joint_of(one, other), asked, found, False)
    if isinstance(found, Parting):
        return _parting_fault(one, other, asked, found, False)
    return "found"


def covers_fault(one, other, seat, found):
    """None if what was found shows whether one custom covers the other, else the word for why not."""
    check_covering(one, other, seat)
    if isinstance(found, Covers):
        return _table_fault(joint_of(one, other), (Who(seat),), found, True)
    if isinstance(found, Parting):
        return _parting_fault(one, other, (Who(seat),), found, True)
    return "found"


def _table_fault(joint, questions, found, covers):
    start = (joint.one.start.code, joint.other.start.code)
    ends = [(pair.one.code, pair.other.code) for pair in found.ends]
    moments = [(pair.one.code, pair.other.code) for pair in found.moments]
    if start not in ends or start not in moments:
        return "start"
    for pair in (*found.moments, *found.ends):
        if joint.one.stand_fault(pair.one) is not None or joint.other.stand_fault(pair.other) is not None:
            return "stand"
    end_nodes = {joint.node_of(*codes): True for codes in ends}
    nodes = {joint.node_of(*codes): True for codes in moments}
    if not all([node in nodes for node in end_nodes]):
        return "ends"
    if not all([to in nodes for node in nodes for to in joint.led(node)]):
        return "deed"
    if not all([joint.ended(node) in end_nodes for node in nodes]):
        return "year"
    for first, second in ends:
        if parted_question(joint, first, second, questions, covers) is not None:
            return "unlike"
    return None


def _parting_fault(one, other, questions, found, covers):
    if found.history.kinds != one.kinds:
        return "kinds"
    if not any([found.question == question for question in questions]):
        return "question"
    if found.first != answer_of(one, found.history, found.question):
        return "answers"
    if found.second != answer_of(other, found.history, found.question):
        return "answers"
    if found.first == found.second or (covers and found.second is None):
        return "same"
    return None
