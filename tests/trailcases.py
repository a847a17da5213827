"""Small trails for tests."""

from random import Random

from tests.plain import random_layer


def random_steps(seed, size, names):
    """Return two to five steps that depend on the seed alone."""
    random = Random(seed * 7 + 1)
    steps = []
    for _ in range(random.randrange(2, 6)):
        kind = random.choice(["look", "look", "rows", "press"])
        if kind == "look":
            steps.append((kind, random_layer(random, size, "---ab.")))
        else:
            steps.append((kind, tuple(name for name in names if random.random() < 0.6)))
    steps.append(("look", random_layer(random, size, "-ab.")))
    return steps
