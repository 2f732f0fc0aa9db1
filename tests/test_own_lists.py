"""Nothing that is handed in is changed, and all that is told is the asker's own."""
import copy
import unittest

from batchpipe.content import Content, meetings, pigs, stretches, ware_at
from batchpipe.errors import NoWay, Touch
from batchpipe.pipe import Pipe
from batchpipe.pushing import pushed
from batchpipe.touching import first_touch
from batchpipe.views import amounts_of, mixed_of, told, told_out
from spoiling import lists_in, replace_fields, spoil, spoil_pipe

FILL = [("oil", 5), ("oil", 2), ("gas", 5), ("wax", 3)]


def a_pipe():
    return Pipe([4, 6, 5], [(2, 1), (10, 3)], [("oil", "gas", 2)], [("tar", "oil")], (1, 2))


def pipe_fields(pipe):
    return copy.deepcopy((pipe.rooms, pipe.table, pipe.thick, pipe.apart, pipe.pig))


def a_content():
    content = Content(a_pipe(), list(FILL))
    for push in [(0, 3, "gas", 2, 1), (1, 3, "wax", 3, 2), (0, 2, "oil", 2, 3)]:
        content = pushed(content, *push)[0]
    return content


def all_of(content):
    """All that can be asked of a content, but its field pipe."""
    answers = [stretches(content), meetings(content), pigs(content), told(content)]
    answers.append([ware_at(content, place) for place in range(15)])
    for push in [(0, 3, "tar", 4), (0, 2, "gas", 9), (1, 3, "oil", 20)]:
        answers.append(first_touch(content, *push))
    for push in [(0, 3, "wax", 14, 9), (1, 2, "gas", 3), (0, 2, "gas", 9), (2, 3, "milk", 1, 4)]:
        later, out, caught = pushed(content, *push)
        answers.append([stretches(later), meetings(later), pigs(later), told(later), out, told_out(out), caught])
    return copy.deepcopy(answers)


class HandedIn(unittest.TestCase):
    def test_pipes_and_fills_are_not_changed(self):
        pipe, fill = a_pipe(), list(FILL)
        content = Content(pipe, fill)
        all_of(content)
        self.assertEqual(fill, FILL)
        self.assertEqual(pipe_fields(pipe), pipe_fields(a_pipe()))
        self.assertEqual(pipe_fields(content.pipe), pipe_fields(a_pipe()))

    def test_contents_are_not_changed(self):
        content = a_content()
        before = all_of(content)
        all_of(content)
        self.assertEqual(all_of(content), before)

    def test_refusals_leave_all_as_it_was(self):
        content = a_content()
        before = all_of(content)
        for push in [(0, 3, "tar", 4, 5), (0, 2, "tar", 99, 5)]:
            with self.assertRaises(Touch):
                pushed(content, *push)
        for push in [(0, 4, "wax", 4, 5), (2, 2, "wax", 99, 5)]:
            with self.assertRaises(NoWay):
                pushed(content, *push)
        self.assertEqual(all_of(content), before)

    def test_outs_and_views_are_not_changed(self):
        out = pushed(a_content(), 0, 3, "wax", 20)[1]
        kept_out = copy.deepcopy(out)
        view = told_out(out)
        kept_view = copy.deepcopy(view)
        mixed_of(view)
        amounts_of(view)
        self.assertEqual((out, view), (kept_out, kept_view))

    def test_a_fill_changed_later(self):
        fill = list(FILL)
        content = Content(a_pipe(), fill)
        before = all_of(content)
        fill.clear()
        self.assertEqual(all_of(content), before)

    def test_a_pipe_changed_later(self):
        for change in [spoil_pipe, replace_fields]:
            pipe = a_pipe()
            content = Content(pipe, list(FILL))
            later = pushed(content, 0, 3, "gas", 3, 1)[0]
            before = (all_of(content), all_of(later))
            change(pipe)
            self.assertEqual((all_of(content), all_of(later)), before)
            self.assertEqual(pipe_fields(content.pipe), pipe_fields(a_pipe()))
            self.assertEqual(pipe_fields(later.pipe), pipe_fields(a_pipe()))

    def test_an_out_changed_later(self):
        out = pushed(a_content(), 0, 3, "wax", 20)[1]
        view = told_out(out)
        kept = copy.deepcopy(view)
        out.clear()
        self.assertEqual(view, kept)

    def test_a_view_changed_later(self):
        view = told(a_content())
        amounts, mixed = amounts_of(view), mixed_of(view)
        kept = copy.deepcopy(amounts)
        spoil(view)
        self.assertEqual((amounts, mixed), (kept, mixed_of(told(a_content()))))


class Told(unittest.TestCase):
    def test_lists_of_a_content(self):
        content = a_content()
        before = all_of(content)
        for ask in [stretches, meetings, pigs, told]:
            first = ask(content)
            kept = copy.deepcopy(first)
            second = ask(content)
            spoil(first)
            self.assertEqual(second, kept)
            self.assertEqual(ask(content), kept)
        self.assertEqual(all_of(content), before)

    def test_what_a_push_tells(self):
        content = a_content()
        before = all_of(content)
        later, out, caught = pushed(content, 0, 3, "wax", 14, 9)
        kept, view = all_of(later), copy.deepcopy(told_out(out))
        other = pushed(content, 0, 3, "wax", 14, 9)
        spoil(out)
        spoil(caught)
        self.assertEqual(told_out(other[1]), view)
        self.assertEqual(other[2], caught[1:][::-1])
        self.assertEqual((all_of(content), all_of(later), all_of(other[0])), (before, kept, kept))

    def test_the_pipe_of_a_told_content(self):
        for change in [spoil_pipe, replace_fields]:
            pipe = a_pipe()
            first = Content(pipe, list(FILL))
            later = pushed(first, 0, 3, "gas", 3, 1)[0]
            last = pushed(later, 1, 3, "wax", 2, 2)[0]
            contents = [first, later, last]
            before = [all_of(content) for content in contents]
            for number, content in enumerate(contents):
                change(content.pipe)
                self.assertEqual([all_of(one) for one in contents], before)
                self.assertEqual(pipe_fields(pipe), pipe_fields(a_pipe()))
                for other in contents[number + 1:]:
                    self.assertEqual(pipe_fields(other.pipe), pipe_fields(a_pipe()))

    def test_what_is_pushed_from_a_content_whose_pipe_was_changed(self):
        content = a_content()
        spoil_pipe(content.pipe)
        later = pushed(content, 0, 3, "gas", 3, 1)[0]
        self.assertEqual(pipe_fields(later.pipe), pipe_fields(a_pipe()))
        self.assertEqual(all_of(later), all_of(pushed(a_content(), 0, 3, "gas", 3, 1)[0]))

    def test_no_two_lists_are_one_and_the_same(self):
        content = a_content()
        answers = [ask(content) for ask in [stretches, meetings, pigs, told] for turn in range(2)]
        for turn in range(2):
            later, out, caught = pushed(content, 0, 3, "wax", 20, 9)
            answers.extend([out, caught, told_out(out), told_out(out), stretches(later), pigs(later), told(later)])
            answers.extend([amounts_of(told_out(out)), amounts_of(told_out(out))])
            answers.extend([later.pipe.rooms, later.pipe.table, later.pipe.thick, later.pipe.apart])
        answers.extend([content.pipe.rooms, content.pipe.table, content.pipe.thick, content.pipe.apart])
        found = lists_in(tuple(answers))
        self.assertEqual(len({id(part) for part in found}), len(found))

    def test_no_two_empty_lists_are_one_and_the_same(self):
        content = Content(Pipe([5], [], [], [], (1, 1)), [("oil", 5)])
        answers = [meetings(content), meetings(content), pigs(content), pigs(content)]
        for turn in range(2):
            later, out, caught = pushed(content, 0, 1, "oil", 2)
            answers.extend([caught, meetings(later), pigs(later), later.pipe.table, later.pipe.thick])
        for one in answers:
            one.append("spoiled")
        self.assertEqual([len(one) for one in answers], [1] * len(answers))

    def test_what_was_told_may_be_handed_in(self):
        content = a_content()
        again = Content(content.pipe, stretches(content))
        self.assertEqual(stretches(again), stretches(content))
        self.assertEqual(meetings(again), [(place, place) for place, since in meetings(content)])
        self.assertEqual(pigs(again), [])
        self.assertIsNot(again.pipe, content.pipe)


if __name__ == "__main__":
    unittest.main()
