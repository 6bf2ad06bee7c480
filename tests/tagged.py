"""Elements as Python itself would have them: equal by their keys, told apart by their forms."""


class Tagged:
    def __init__(self, key, form):
        self.key = key
        self.form = form

    def __eq__(self, other):
        return self.key == other.key

    def __hash__(self):
        return hash(self.key)


def python_set(form_set):
    return {Tagged(key, form) for key, form in form_set.members()}


def python_dict(form_dict):
    return {Tagged(key, form): value for key, form, value in form_dict.entries()}


def told(tagged):
    """The elements of a set of Python, or the entries of a dict, ascending."""
    if isinstance(tagged, dict):
        return sorted((item.key, item.form, value) for item, value in tagged.items())
    return sorted((item.key, item.form) for item in tagged)
