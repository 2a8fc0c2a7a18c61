"""What a function is handed it leaves alone, and what it tells is the asker's own."""

from copy import deepcopy


def containers(value):
    """All lists and dicts in a value, itself too."""
    found = [value] if isinstance(value, (list, dict)) else []
    if isinstance(value, dict):
        value = list(value.values())
    if isinstance(value, (list, tuple)):
        for inner in value:
            found += containers(inner)
    return found


def change(container):
    if isinstance(container, dict):
        container.update({(77, 78): 1000, (1,): 2000})
    elif container and isinstance(container[0], int):
        container[0] += 1
    else:
        container.append([12345])


class Owned:
    """Tests for a case that tells by cases() tuples of a function and of what it is handed."""

    def test_what_is_handed_in_and_told(self):
        for function, handed in self.cases():
            look(self, function, deepcopy(handed))

    def test_one_by_one(self):
        for function, handed in self.cases():
            look_one_by_one(self, function, handed)


def look(case, function, handed):
    """Fails the case where a call breaks one of these: what is handed in stays, what is told is fresh."""
    before = deepcopy(handed)
    told = function(*handed)
    case.assertEqual(handed, before)
    shape = deepcopy(told)
    places = [id(container) for container in containers(told)]
    case.assertEqual(len(places), len(set(places)), "two lists or dicts that are told are one")
    case.assertEqual(set(places) & {id(container) for container in containers(handed)}, set())
    again = function(*handed)
    for container in containers(told):
        change(container)
    case.assertEqual(handed, before)
    case.assertEqual(again, shape)
    case.assertEqual(function(*handed), shape)
    for container in containers(handed):
        container.clear()
    case.assertEqual(again, shape)


def look_one_by_one(case, function, handed):
    """Fails the case where changing one told list or dict changes another one."""
    for place in range(len(containers(function(*deepcopy(handed))))):
        every = containers(function(*deepcopy(handed)))
        shapes = [plain(container) for container in every]
        change(every[place])
        for other, container in enumerate(every):
            if other != place:
                case.assertEqual(plain(container), shapes[other])


def plain(container):
    """A list or dict without the lists and dicts in it."""
    members = list(container.items()) if isinstance(container, dict) else container
    return [member for member in members if not containers(member)]
