"""Trees that tell all: their rows are free, and at each height as many as can be."""

from boughkept.steps import grown_patches


def grown_trees(wood, reader, degree=1):
    """For each kind the told trees, the lower ones first."""
    patches = grown_patches(wood, reader, degree)
    return tuple([tuple([tree for height, tree, row in patch.told]) for patch in patches])
