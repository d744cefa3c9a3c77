"""The interface: each name that the document tells, in its module, with its arguments."""

import importlib
import inspect
import unittest

TOLD = {
    "webs": "is_web(thing) web_of(many,things) ties_at(web,place) tie_counts(web) pieces_of(web) tree_like(web) "
            "hubs_of(web) sides_of(web)",
    "kinds": "kind_good(thing) web_for(kind)",
    "steps": "steps_of(web,numbers) steps_good(web,thing) mirrored_steps(web,numbers) parted_at(web,numbers) "
             "half_turned(web,numbers) step_bar_holds(web,thing) step_bar(web) joined_webs(web,numbers,other,others)",
    "making": "steps_for(kind) parted_for(kind) grown_steps(web,numbering,count) grown_above(web,numbering,count)",
    "counting": "steps_count(web) nth_steps(web,number) rank_of(web,numbers) next_steps(web,numbers) "
                "goes_on(web,begun) next_numbers(web,begun) tally_at(web,place)",
    "searches": "paper_holds(web,begun,thing) paper_for(web,begun)",
    "rounds": "round_sums(web,numbering) round_good(web,thing) turned_round(web,numbering,more) "
              "times_round(web,numbering,often) round_bar_holds(web,thing) round_bar(web) round_for(kind) "
              "round_from(web,numbering)",
    "totals": "total_good(web,thing) low_good(web,thing) total_of(web,thing) opposite_total(web,thing) "
              "low_opposite(web,thing) low_by(web,numbers) total_span(web) total_bar_holds(web,thing) total_bars(web) "
              "total_for(kind)",
    "squares": "square_good(thing) square_for(size) opposite_square(square) turned_square(square) "
               "moved_square(square,rows,columns)",
    "evens": "place_sums(web,numbering) even_good(web,thing) square_of(numbering) numbering_of(square) "
             "even_bar_holds(web,thing) even_bar(web) even_for(kind)",
    "unlike": "unlike_good(web,thing) unlike_by(web,thing) unlike_for(kind) unlike_bar_holds(web,thing) "
              "unlike_bar(web) unlike_count(web) unlike_first(web)",
    "copies": "cut_good(web,size,thing) cut_by(web,numbering) found_in(web,numbering,one,other) "
              "folds_by(web,numbering,folds)",
    "texts": "web_shown(web) web_read(text)",
    "desk": "Desk()",
}


class InterfaceTest(unittest.TestCase):
    def test_each_name_and_its_arguments(self):
        for name, told in TOLD.items():
            module = importlib.import_module("tienumbers." + name)
            for one in told.split():
                word, arguments = one[:-1].split("(")
                given = inspect.signature(getattr(module, word)).parameters
                self.assertEqual(",".join(given), arguments, one)
                self.assertTrue(all(part.default is part.empty for part in given.values()), one)

    def test_the_desk(self):
        module = importlib.import_module("tienumbers.desk")
        self.assertEqual(list(inspect.signature(module.Desk().say).parameters), ["row"])
        self.assertEqual(module.Desk().say(row="shown"), "web 1")


if __name__ == "__main__":
    unittest.main()
