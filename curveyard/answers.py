"""Scenes that are done, and their answers."""

from curveyard.deeds import done
from curveyard.report import answer_row
from curveyard.scenetext import scene_of
from curveyard.yard import Yard


def run(scene):
    """The answers to a scene's deeds, done in order in a new yard."""
    yard = Yard(scene.curve, scene.level, scene.size)
    return [done(yard, deed) for deed in scene.deeds]


def answers(text):
    """The rows of the answers to the scene that a text tells; refused with BadRow, CornerTwice, Unmet."""
    return "\n".join([answer_row(answer) for answer in run(scene_of(text))])
