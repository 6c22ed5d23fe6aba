"""The interface: its names, and how what belongs to them is handed in [2]."""

import inspect
import unittest
from importlib import import_module

FUNCTIONS = {
    "parts": "is_part(thing) part(above,below=1) plus(one,other) minus(one,other) times(one,many) shared(one,many) "
             "is_less(one,other) total(row,*,start=(0,1)) part_text(one) read_part(text)",
    "sums": "greatest_first(row) sums_ahead(row) most(weight,seats,many) fall(weight,row) is_within(weight,row)",
    "moments": "is_moment(thing) moment_of(weight) owing(moment) persons(moment) empty_seats(moment) kitty(moment) "
               "seat_of(moment,person) owes(moment,person)",
    "coming": "seat_for(moment) with_person(moment,person) without_person(moment,person)",
    "evenings": "in_order(moment,there) served(moment,there,duties) behind(moment,there,duties)",
    "layers": "layers(duties) layer_change(moment,there,many,seats)",
    "offers": "offered(moment,there,said)",
    "gifts": "with_gift(moment,one,other,part) levelling(moment) levelled(moment)",
    "joining": "joined(one,other) parted(moment,seats)",
    "pouring": "weighed(moment,weight) poured(one,other)",
    "papers": "paper_of(moment) paper_holds(weight,thing) is_paper(moment,thing)",
    "vouchers": "voucher_of(moment,there,duties,seats) voucher_holds(weight,thing) vouched(voucher)",
    "facts": "fact_of(moment,deed) moment_by(moment,fact)",
    "stretches": "foretold(moment,evenings) stretch(club,first,last)",
    "momenttexts": "moment_text(moment) read_moment(text)",
}
METHODS = {
    ("clubs", "Club"): "__init__(self,weight=1,*,persons=()) come(self,person) leave(self,person) "
                       "evening(self,there,duties) offer(self,there,said) gift(self,one,other,*,part) "
                       "join(self,moment) weigh(self,weight) do(self,deed) do_all(self,deeds) "
                       "moment(self,number=None) facts(self) payments(self) __len__(self) __eq__(self,other) "
                       "back(self,many=1) set_right(self,number,there) twin(self)",
    ("shelves", "Shelf"): "__init__(self,hand,*,weight=1) hand(self) book(self) do(self,deed) back(self,many=1) "
                          "set_right(self,number,there) take_in(self,other) copy_of(self,hand) place(self) "
                          "together(self) most_of(self,persons)",
    ("desk", "Desk"): "__init__(self,*,weight=1) take(self,text) club(self)",
}


def written(name, function):
    """A name and its parameters, as the interface writes them."""
    return name + str(inspect.signature(function)).replace(" ", "")


class TestInterface(unittest.TestCase):
    def test_functions(self):
        for module, texts in FUNCTIONS.items():
            found = vars(import_module("whoserves." + module))
            for text in texts.split():
                name = text.partition("(")[0]
                self.assertEqual(written(name, found[name]), text)
                self.assertEqual(found[name].__module__, "whoserves." + module)

    def test_methods_stand_in_the_class_itself(self):
        for (module, name), texts in METHODS.items():
            found = vars(vars(import_module("whoserves." + module))[name])
            for text in texts.split():
                method = text.partition("(")[0]
                self.assertEqual(written(method, found[method]), text)


if __name__ == "__main__":
    unittest.main()
