"""Points 2 to 4 and the interface: signatures, tuples, True and False, unchanged arguments."""

import copy
import importlib
import inspect
import unittest

from stampsheets.boxes import Box
from stampsheets.carbonmaking import carbon_making
from stampsheets.claims import Claim
from stampsheets.comparing import compare_stocks
from stampsheets.counting import row_sum
from stampsheets.desks import Desk
from stampsheets.duels import Duel
from stampsheets.inkmaking import ink_making
from stampsheets.inks import InkStock
from stampsheets.inners import stamp_making
from stampsheets.makings import making
from stampsheets.orders import all_orders
from stampsheets.peels import peeling
from stampsheets.performing import perform
from stampsheets.powersums import PowerSum
from stampsheets.prices import cheapest
from stampsheets.rowlists import rows_with
from stampsheets.stocks import Stock
from stampsheets.trails import Trail
from stampsheets.verdicts import verdict

# Every name of the interface that has landed, under its file, with its arguments.
FUNCTIONS = {
    "layers": """is_layer(value) is_sheet(value) cells_of(one) agree(one,two) within(one,two) joined(one,two)
        freed(one,chosen) kept_at(one,chosen) empty_layer(size) filled(one) layer_order(one) press(one,two)""",
    "stocks": "is_name(value)",
    "rows": """pressed(stock,layer,row) net_stamp(stock,row) stages(stock,layer,row) last_covers(stock,row)
        seen_presses(stock,row) seen_row(stock,row) parting_sheet(stock,one,two)""",
    "peels": "peeled(left,stamp) on_top(stock,left) peeling(stock,seen)",
    "fastness": "is_fast(stock,seen,chosen) fast_cells(stock,seen) fast_sets(stock,seen)",
    "makings": "making(stock,start,seen) is_refusal(stock,start,seen,chosen) is_made(stock,start,seen,row)",
    "freeing": "freed_layers(stock,seen) step_table(stock,seen) is_step_table(stock,start,seen,least,table)",
    "shortest": "distance(stock,start,seen) shortest_row(stock,start,seen) shortest_count(stock,start,seen)",
    "reaching": "first_stuck(stock,marks)",
    "trails": "keeps(trail,start,row)",
    "sources": "trail_sources(trail) is_source_table(trail,table)",
    "trailing": "trail_history(trail) possible_marks(trail,index,cell) sure_marks(trail,index)",
    "beneath": """marks_beneath(stock,start,seen,cell) beneath_history(stock,start,seen,cell,mark)
        may_be_bare(stock,start,seen,cell) possible_tops(stock,start,seen,cell) sure_top(stock,start,seen,cell)""",
    "marks": "first_mark(claim) next_mark(claim,mark,name) mark_holds(claim,mark) holds(claim,row)",
    "standings": "standing_moves(claim,standing) reached_standings(seen,claim)",
    "verdicts": """verdict(start,seen,claim,*,supposed=None)
        is_verdict_table(start,seen,claim,word,table,*,supposed=None)""",
    "rowlists": """rows_with(start,seen,claim,*,longest) row_count(start,seen,claim,length)
        least_row(start,seen,claim)""",
    "commons": "sure_uses(stock,start,seen) possible_uses(stock,start,seen) sure_pairs(stock,start,seen)",
    "implying": "implies(start,seen,one,two) same_claims(one,two)",
    "orders": "all_orders(stock,start,seen) order_count(stock,start,seen)",
    "topsets": """top_sets(stock,seen) is_top_set(stock,seen,names) arranged(stock,seen,names)
        greatest_top_set(stock,seen) stuck_names(stock,seen) least_top_sets(stock,seen,name)""",
    "precedence": "over_pairs(stock,start,seen) place_range(stock,start,seen,name)",
    "exchanges": "exchange_way(stock,start,seen,one,two)",
    "commonorders": "common_order(stock,pairs) common_stuck(stock,pairs)",
    "inners": "inner_stock(stock,stamp) stamp_making(stock,stamp) is_stamp_refusal(stock,stamp,chosen)",
    "effects": "least_same_row(stock,row) commute(stock,one,two)",
    "comparing": "strange_sheet(one,two) compare_stocks(one,two)",
    "trimming": "needless(stock,name) trimmed(stock) least_stocks(stock)",
    "nets": "net_stamps(stock) common_stamps(one,two) net_table(stock)",
    "buying": "additions(stock,offers,wishes)",
    "judging": "is_comparison(one,two,comparison)",
    "boxes": "explains(box,names) refusal_of(box,names)",
    "choices": """least_choices(box) needed_names(box) useful_names(box) choice_count(box) fewest_names(box)
        cheapest_choice(box,prices)""",
    "hurdles": "breakers(stock,seen,chosen) least_hurdles(box)",
    "fewestpapers": "is_fewest_paper(box,names,cases) fewest_paper(box)",
    "prices": """row_cost(stock,prices,row) price_order(stock,prices) cheapest(stock,prices,start,seen)
        is_cost_table(stock,prices,start,seen,least,table)""",
    "weighing": "mark_costs(stock,prices,start,seen,cell) mark_margin(stock,prices,start,seen,cell)",
    "margins": """cost_margin(prices,start,seen,claim) sure_within(prices,start,seen,claim,excess)
        stamp_worth(stock,prices,start,seen,name)""",
    "ratios": """is_ratio(value) ratio(top,bottom) plus(one,two) minus(one,two) times(one,two) divided(one,two)
        less(one,two) power(one,count)""",
    "powersums": "long_run(power_sum)",
    "counting": "row_sum(stock,start,seen)",
    "chances": """chance_sum(stock,chances,start,seen) long_chance(stock,chances,start,seen)
        sheet_chances(stock,chances,start,n) resting_chances(stock,chances,start)
        after_press(stock,chances,weights)""",
    "covers": """top_sum(stock,chances,cell,name) cover_sum(stock,chances,chosen) cover_wait(stock,chances,chosen)
        wait_table(stock,chances,chosen)""",
    "claimchances": "claim_chances(chances,start,seen,claim,n) claim_share(chances,start,seen,claim,n)",
    "duels": "answers_to(duel,sheet) duel_sheets(duel,start)",
    "havens": "is_haven(duel,sheets) safe_sheets(duel,start) answer_plan(duel,start)",
    "losing": "loss_table(duel,start) is_loss_table(duel,table)",
    "restoring": "weak_point(mine,foes,wish) least_most(mine,foes,wishes,start)",
    "winning": "won_sheets(duel,start) is_trap(duel,sheets)",
    "inks": "is_ink_stamp(value,size) ink_press(sheet,stamp) ink_pressed(inks,sheet,row)",
    "plaininks": "plain_layer(reading) ink_reading(layer) plain_stamp(stamp) plain_stock(inks)",
    "inkmaking": "ink_making(inks,start,seen) ink_net(inks,row)",
    "carbons": """carbon_pairs(stock) pressed_pairs(stock,row) carbon_stock(stock)
        carbon_layer(stock,layer,pairs)""",
    "carbonmaking": "carbon_making(stock,start,seen,pairs) carbon_sets(stock,start,seen)",
    "piles": """pile_stock(stock,depth) pile_layer(layers) pile_parts(layer,depth)
        pile_sheets(stock,sheets,row)""",
    "grids": "grid_rows(layer,width) grid_layer(rows) turned(layer,width) mirrored(layer,width)",
    "shapes": """is_shape(value) placed(shape,height,width,row,column) placings(shape,height,width)
        shape_turns(shape) grid_stock(height,width,shapes,*,turns=False)""",
    "renaming": """recoloured(layer,pairs) recoloured_stock(stock,pairs) moved(layer,cells)
        moved_stock(stock,cells)""",
    "symmetries": "turned_stock(stock,width) mirrored_stock(stock,width) grid_symmetries(stock,width)",
    "sides": """beside(one,two) beside_layer(one,two) parts_of(stock) part_stock(stock,group)
        part_layer(stock,layer,group)""",
    "performing": "perform(desk,deeds)",
    "stocknotes": "format_stock(stock) parse_stock(text)",
    "trailnotes": "format_trail(trail) parse_trail(stock,text)",
    "claimnotes": "format_claim(claim) parse_claim(stock,text)",
    "boxnotes": "format_box(box) parse_box(text)",
    "sumnotes": "format_row(row) parse_row(stock,text) format_power_sum(power_sum) parse_power_sum(text)",
}

METHODS = {
    ("stocks", "Stock"): """__init__(self,size,stamps) stamp(self,name) only(self,names) without(self,names)
        renamed(self,old,new) __len__(self) __contains__(self,name) __iter__(self) __eq__(self,other)
        __or__(self,other)""",
    ("peels", "Peeling"): "",
    ("makings", "Making"): "",
    ("trails", "Trail"): """__init__(self,stock,steps) with_look(self,index,layer) __len__(self) __iter__(self)
        __eq__(self,other) __add__(self,other)""",
    ("claims", "Claim"): """of(stock,atom) __and__(self,other) __or__(self,other) __invert__(self)
        __eq__(self,other)""",
    ("verdicts", "Verdict"): "",
    ("inners", "StampMaking"): "",
    ("comparing", "Comparison"): "",
    ("boxes", "Box"): """__init__(self,stock,pairs) with_pair(self,start,seen) __len__(self) __iter__(self)
        __eq__(self,other)""",
    ("prices", "Cheapest"): "",
    ("powersums", "PowerSum"): """__init__(self,terms) shifted(self) __call__(self,n) __add__(self,other)
        __sub__(self,other) __mul__(self,other) __eq__(self,other) __len__(self) __iter__(self)""",
    ("duels", "Duel"): "__init__(self,mine,foes,wishes,most) __eq__(self,other)",
    ("inks", "InkStock"): "__init__(self,size,stamps) __eq__(self,other)",
    ("inkmaking", "InkMaking"): "",
    ("desks", "Desk"): """__init__(self,stock,sheet) press(self,name) undo(self) back_to(self,count)
        make(self,layer) __len__(self) __iter__(self)""",
    ("blocks", "Trial"): "__init__(self,desk) __enter__(self) __exit__(self,kind,value,trace)",
    ("blocks", "Batch"): "__init__(self,desk) __enter__(self) __exit__(self,kind,value,trace)",
}

PROPERTIES = [
    ("stocks", "Stock", "names"), ("claims", "Claim", "atoms"), ("inks", "InkStock", "names"),
    ("desks", "Desk", "first_sheet"), ("desks", "Desk", "presses"), ("desks", "Desk", "now"),
]


def written(name, function):
    text = str(inspect.signature(function)).replace(" ", "")
    return name + text


def plain_function(method):
    return method.__func__ if isinstance(method, staticmethod) else method


class InterfaceTest(unittest.TestCase):
    def test_functions(self):
        for file, listed in FUNCTIONS.items():
            module = importlib.import_module("stampsheets." + file)
            for signature in listed.split():
                name = signature.partition("(")[0]
                function = getattr(module, name)
                self.assertEqual(function.__module__, "stampsheets." + file)
                self.assertEqual(written(name, function), signature)

    def test_classes(self):
        for (file, kind), listed in METHODS.items():
            module = importlib.import_module("stampsheets." + file)
            owner = getattr(module, kind)
            self.assertEqual(owner.__module__, "stampsheets." + file)
            for signature in listed.split():
                name = signature.partition("(")[0]
                self.assertIn(name, vars(owner))
                self.assertEqual(written(name, plain_function(vars(owner)[name])), signature)
        for file, kind, name in PROPERTIES:
            owner = getattr(importlib.import_module("stampsheets." + file), kind)
            self.assertIsInstance(vars(owner)[name], property)

    def test_init_holds_a_docstring_only(self):
        with open(importlib.import_module("stampsheets").__file__, encoding="ascii") as file:
            self.assertRegex(file.read(), r'\A"""[^"]+"""\n\Z')


STOCK = Stock(2, [["x", "a-"], ["y", "-b"], ["z", "a-"]])
TRAIL = Trail(STOCK, [["rows", ["x", "z"]], ["look", "ab"]])
CLAIM = Claim.of(STOCK, ["used", "y", 1])
OTHER = Claim.of(STOCK, ["ends", "x"])
OFFERS = Stock(2, [["w", "c-"], ["v", "-b"]])
BOX = Box(STOCK, [["..", "a-"], ["..", ".b"]])
CHANCES = [[1, 2], [1, 3], [1, 6]]
TOTAL = PowerSum([[[1, 2], [1, 1]], [[1, 1], [1, 3]]])
DUEL = Duel(STOCK, OFFERS, ["a-", "-b"], 1)
INKS = InkStock(1, [["x", [["set", 3]]], ["y", [["add", 4]]]])

# Calls with lists in the place of tuples; each is asked twice and must leave its arguments alone.
CALLS = [
    ("layers", "cells_of", ["a-"]),
    ("layers", "freed", ["ab", [1, 1]]),
    ("layers", "kept_at", ["ab", [1]]),
    ("layers", "is_layer", [["a"]]),
    ("rows", "pressed", [STOCK, "..", ["x", "y"]]),
    ("rows", "last_covers", [STOCK, ["x", "y"]]),
    ("rows", "seen_presses", [STOCK, ["x", "x"]]),
    ("rows", "seen_row", [STOCK, ["x", "x"]]),
    ("rows", "parting_sheet", [STOCK, ["x"], ["y"]]),
    ("peels", "on_top", [STOCK, "ab"]),
    ("fastness", "is_fast", [STOCK, "cc", [0, 0]]),
    ("fastness", "fast_cells", [STOCK, "cc"]),
    ("fastness", "fast_sets", [STOCK, "cc"]),
    ("makings", "is_refusal", [STOCK, "..", "cc", [1, 0]]),
    ("makings", "is_made", [STOCK, "..", "ab", ["x", "y"]]),
    ("freeing", "freed_layers", [STOCK, "ab"]),
    ("freeing", "step_table", [STOCK, "ab"]),
    ("freeing", "is_step_table", [STOCK, "..", "a-", 1, [["a-", 0], ["--", 1]]]),
    ("shortest", "distance", [STOCK, "..", "ab"]),
    ("shortest", "shortest_row", [STOCK, "..", "ab"]),
    ("shortest", "shortest_count", [STOCK, "..", "ab"]),
    ("reaching", "first_stuck", [STOCK, "ab"]),
    ("trails", "keeps", [TRAIL, "..", ["x"]]),
    ("sources", "trail_sources", [TRAIL]),
    ("sources", "is_source_table", [TRAIL, [["-b"], ["ab"], ["--"]]]),
    ("trailing", "trail_history", [TRAIL]),
    ("trailing", "possible_marks", [TRAIL, 0, 0]),
    ("trailing", "sure_marks", [TRAIL, 1]),
    ("beneath", "marks_beneath", [STOCK, "..", "ab", 0]),
    ("beneath", "beneath_history", [STOCK, "..", "ab", 0, "a"]),
    ("beneath", "may_be_bare", [STOCK, "..", "ab", 0]),
    ("beneath", "possible_tops", [STOCK, "..", "ab", 0]),
    ("beneath", "sure_top", [STOCK, "..", "ab", 1]),
    ("marks", "first_mark", [CLAIM]),
    ("marks", "next_mark", [CLAIM, [0], "y"]),
    ("marks", "mark_holds", [CLAIM, [1]]),
    ("marks", "holds", [CLAIM, ["x", "y"]]),
    ("standings", "standing_moves", [CLAIM, ["ab", [0]]]),
    ("standings", "reached_standings", ["ab", CLAIM]),
    ("verdicts", "is_verdict_table", ["..", "qq", CLAIM, "none", [["qq", [0]]]]),
    ("rowlists", "row_count", ["..", "ab", CLAIM, 4]),
    ("rowlists", "least_row", ["..", "ab", CLAIM]),
    ("commons", "sure_uses", [STOCK, "..", "ab"]),
    ("commons", "possible_uses", [STOCK, "..", "ab"]),
    ("commons", "sure_pairs", [STOCK, "..", "ab"]),
    ("implying", "implies", ["..", "ab", CLAIM, OTHER]),
    ("implying", "same_claims", [CLAIM, OTHER]),
    ("orders", "order_count", [STOCK, "..", "ab"]),
    ("topsets", "top_sets", [STOCK, "ab"]),
    ("topsets", "is_top_set", [STOCK, "ab", ["y", "x", "x"]]),
    ("topsets", "arranged", [STOCK, "ab", ["y", "x", "x"]]),
    ("topsets", "greatest_top_set", [STOCK, "ab"]),
    ("topsets", "stuck_names", [STOCK, "ab"]),
    ("topsets", "least_top_sets", [STOCK, "ab", "x"]),
    ("precedence", "over_pairs", [STOCK, "..", "ab"]),
    ("precedence", "place_range", [STOCK, "..", "ab", "x"]),
    ("exchanges", "exchange_way", [STOCK, "..", "ab", ["x", "y", "z"], ["z", "y", "x"]]),
    ("commonorders", "common_order", [STOCK, [["..", "ab"], ["..", "a-"]]]),
    ("commonorders", "common_stuck", [STOCK, [["..", "ab"], ["..", "c-"]]]),
    ("inners", "inner_stock", [STOCK, "a-"]),
    ("inners", "is_stamp_refusal", [STOCK, "cb", [0, 0]]),
    ("effects", "least_same_row", [STOCK, ["z", "y", "x"]]),
    ("effects", "commute", [STOCK, "x", "y"]),
    ("comparing", "strange_sheet", [STOCK, OFFERS]),
    ("trimming", "needless", [STOCK, "x"]),
    ("trimming", "trimmed", [STOCK]),
    ("trimming", "least_stocks", [STOCK]),
    ("nets", "net_stamps", [STOCK]),
    ("nets", "common_stamps", [STOCK, OFFERS]),
    ("nets", "net_table", [STOCK]),
    ("buying", "additions", [STOCK, OFFERS, ["cb", "ab"]]),
    ("judging", "is_comparison", [
        OFFERS, STOCK, ["apart", [None, ["y"]], [None, ["v"], None], "w", "x", "zz", [0], [0]]]),
    ("boxes", "explains", [BOX, ["y", "x"]]),
    ("boxes", "refusal_of", [BOX, ["z", "z"]]),
    ("choices", "least_choices", [BOX]),
    ("choices", "needed_names", [BOX]),
    ("choices", "useful_names", [BOX]),
    ("choices", "choice_count", [BOX]),
    ("choices", "fewest_names", [BOX]),
    ("choices", "cheapest_choice", [BOX, [1, 2, 3]]),
    ("hurdles", "breakers", [STOCK, "ab", [0, 0]]),
    ("hurdles", "least_hurdles", [BOX]),
    ("fewestpapers", "is_fewest_paper", [BOX, ["y", "z", "y"], [[0, [0]], [1, [1, 1]]]]),
    ("fewestpapers", "fewest_paper", [BOX]),
    ("prices", "row_cost", [STOCK, [1, 2, 3], ["x", "y"]]),
    ("prices", "price_order", [STOCK, [2, 1, 1]]),
    ("prices", "is_cost_table", [STOCK, [1, 2, 3], "..", "a-", 1, [["a-", 0], ["--", 1]]]),
    ("weighing", "mark_costs", [STOCK, [1, 2, 3], "..", "a-", 1]),
    ("weighing", "mark_margin", [STOCK, [1, 2, 3], "..", "a-", 1]),
    ("margins", "cost_margin", [[1, 2, 3], "..", "ab", CLAIM]),
    ("margins", "sure_within", [[1, 2, 3], "..", "ab", OTHER, 1]),
    ("margins", "stamp_worth", [STOCK, [1, 2, 3], "..", "ab", "x"]),
    ("ratios", "is_ratio", [[1, 2]]),
    ("ratios", "plus", [[1, 2], [1, 3]]),
    ("ratios", "minus", [[1, 2], [1, 3]]),
    ("ratios", "times", [[1, 2], [1, 3]]),
    ("ratios", "divided", [[1, 2], [1, 3]]),
    ("ratios", "less", [[1, 2], [1, 3]]),
    ("ratios", "power", [[1, 2], 3]),
    ("powersums", "long_run", [TOTAL]),
    ("counting", "row_sum", [STOCK, "..", "ab"]),
    ("chances", "chance_sum", [STOCK, CHANCES, "..", "ab"]),
    ("chances", "long_chance", [STOCK, CHANCES, "..", "ab"]),
    ("chances", "sheet_chances", [STOCK, CHANCES, "..", 3]),
    ("chances", "resting_chances", [STOCK, CHANCES, ".."]),
    ("chances", "after_press", [STOCK, CHANCES, [["..", [1, 2]], ["a.", [1, 2]]]]),
    ("covers", "top_sum", [STOCK, CHANCES, 0, "x"]),
    ("covers", "cover_sum", [STOCK, CHANCES, [1, 0]]),
    ("covers", "cover_wait", [STOCK, CHANCES, [1, 0]]),
    ("covers", "wait_table", [STOCK, CHANCES, [1, 0]]),
    ("claimchances", "claim_chances", [CHANCES, "..", "ab", CLAIM, 4]),
    ("claimchances", "claim_share", [CHANCES, "..", "ab", CLAIM, 4]),
    ("duels", "answers_to", [DUEL, "cb"]),
    ("duels", "duel_sheets", [DUEL, ".."]),
    ("havens", "is_haven", [DUEL, ["ab", "cb", "ab"]]),
    ("havens", "safe_sheets", [DUEL, ".."]),
    ("havens", "answer_plan", [DUEL, ".."]),
    ("losing", "loss_table", [DUEL, ".."]),
    ("losing", "is_loss_table", [DUEL, [["cq", 0, None], ["cq", 1, "w"]]]),
    ("restoring", "weak_point", [OFFERS, STOCK, "cb"]),
    ("restoring", "least_most", [STOCK, OFFERS, ["ab", "a-"], ".."]),
    ("winning", "won_sheets", [DUEL, ".."]),
    ("winning", "is_trap", [DUEL, ["cq", "qq"]]),
    ("inks", "is_ink_stamp", [[["set", 3], None], 2]),
    ("inks", "ink_press", ["34", [["bleach", 1], None]]),
    ("inks", "ink_pressed", [INKS, "1", ["x", "y"]]),
    ("plaininks", "plain_stamp", [[["bleach", 1], None]]),
    ("plaininks", "plain_stock", [INKS]),
    ("inkmaking", "ink_net", [INKS, ["y", "x"]]),
    ("carbons", "carbon_pairs", [STOCK]),
    ("carbons", "pressed_pairs", [STOCK, ["y", "x"]]),
    ("carbons", "carbon_stock", [STOCK]),
    ("carbons", "carbon_layer", [STOCK, "a-", [[1, "b"], [1, "b"]]]),
    ("carbonmaking", "carbon_sets", [STOCK, "..", "a-"]),
    ("piles", "pile_stock", [STOCK, 3]),
    ("piles", "pile_layer", [["ab", "--"]]),
    ("piles", "pile_parts", ["ab--", 2]),
    ("piles", "pile_sheets", [STOCK, ["..", "qq"], [["x", 2], ["y", 1]]]),
    ("grids", "grid_rows", ["ab--", 2]),
    ("grids", "grid_layer", [["ab", "--"]]),
    ("shapes", "is_shape", [["ab", "--"]]),
    ("shapes", "placed", [["ab", "--"], 3, 3, 1, 0]),
    ("shapes", "placings", [["ab", "--"], 3, 3]),
    ("shapes", "shape_turns", [["ab", "--"]]),
    ("shapes", "grid_stock", [2, 2, [["x", ["ab"]], ["y", ["a", "-"]]]]),
    ("renaming", "recoloured", ["ab-", [["a", "b"], ["b", "a"]]]),
    ("renaming", "recoloured_stock", [STOCK, [["a", "b"], ["b", "a"]]]),
    ("renaming", "moved", ["ab-", [2, 0, 1]]),
    ("renaming", "moved_stock", [STOCK, [1, 0]]),
    ("symmetries", "turned_stock", [STOCK, 2]),
    ("symmetries", "mirrored_stock", [STOCK, 2]),
    ("symmetries", "grid_symmetries", [STOCK, 1]),
    ("sides", "beside", [STOCK, OFFERS]),
    ("sides", "parts_of", [STOCK]),
    ("sides", "part_stock", [STOCK, 0]),
    ("sides", "part_layer", [STOCK, "ab", 1]),
    ("stocknotes", "format_stock", [STOCK]),
    ("stocknotes", "parse_stock", ["stock 2\nx a-"]),
    ("trailnotes", "format_trail", [TRAIL]),
    ("trailnotes", "parse_trail", [STOCK, "rows x z\nlook ab"]),
    ("claimnotes", "format_claim", [CLAIM]),
    ("claimnotes", "parse_claim", [STOCK, "(used y 1 & ~bare 1)"]),
    ("boxnotes", "format_box", [BOX]),
    ("boxnotes", "parse_box", ["stock 2\nx a-\npair .. ab"]),
    ("sumnotes", "format_row", [["x", "y"]]),
    ("sumnotes", "parse_row", [STOCK, "x y"]),
    ("sumnotes", "format_power_sum", [TOTAL]),
    ("sumnotes", "parse_power_sum", ["1 * (-1/2) ** n"]),
]


SAY_TRUE_OR_FALSE = ("keeps", "may_be_bare", "mark_holds", "holds", "implies", "commute", "needless", "explains",
                     "sure_within", "less")


def has_lists(value):
    if isinstance(value, (tuple, list)):
        return isinstance(value, list) or any(has_lists(item) for item in value)
    return False


def in_tuples(value):
    return tuple(in_tuples(item) for item in value) if isinstance(value, (list, tuple)) else value


class SequencesTest(unittest.TestCase):
    def test_answers(self):
        for file, name, arguments in CALLS:
            function = getattr(importlib.import_module("stampsheets." + file), name)
            before = copy.deepcopy(arguments)
            answer = function(*arguments)
            self.assertFalse(has_lists(answer), name)
            self.assertEqual(arguments, before, name)
            self.assertEqual(function(*arguments), answer, name)
            named = dict(zip(inspect.signature(function).parameters, arguments))
            self.assertEqual(function(**named), answer, name)
            if name != "is_layer":
                self.assertEqual(function(*in_tuples(arguments)), answer, name)
            if name.startswith("is_") or name in SAY_TRUE_OR_FALSE:
                self.assertIn(answer, [True, False])
                self.assertIsInstance(answer, bool)

    def test_fields_are_tuples(self):
        made, refused = making(STOCK, "..", "ab"), making(STOCK, "..", "cc")
        end = peeling(STOCK, "ab")
        told, unsure = verdict("..", "qq", CLAIM), verdict("..", "ab", OTHER)
        stamped, missed = stamp_making(STOCK, "ab"), stamp_making(STOCK, "cb")
        compared = compare_stocks(STOCK, OFFERS)
        cheap = cheapest(STOCK, [1, 2, 3], "..", "ab")
        inked, clean = ink_making(INKS, "0", "7"), ink_making(INKS, "0", "6")
        carbon = carbon_making(STOCK, "..", "qb", [[0, "a"]])
        for value in [
            STOCK.stamps, STOCK.names, end.order, made.row, made.cells, refused.cells, TRAIL.steps, CLAIM.tree,
            CLAIM.atoms, told.table, unsure.table, unsure.keeping, unsure.breaking, stamped.row, stamped.cells,
            missed.cells, compared.rows, compared.other_rows, BOX.pairs, cheap.row, cheap.table, TOTAL.terms,
            TOTAL(3), row_sum(STOCK, "..", "ab").terms, DUEL.wishes, INKS.stamps, INKS.names, inked.row, inked.places,
            clean.places, carbon.cells,
        ]:
            self.assertIsInstance(value, tuple)
            self.assertFalse(has_lists(value))

    def test_deeds_and_desks(self):
        desk = Desk(STOCK, "..")
        deeds = [["press", "x"], ["attempt", [["make", "ab"], ["undo"]]], ["show"]]
        before = copy.deepcopy(deeds)
        told = perform(deeds=deeds, desk=desk)
        self.assertEqual(told, ("a.", (True, (("y",), "y")), ("a.", ("x",))))
        self.assertEqual(perform(Desk(stock=STOCK, sheet=".."), in_tuples(deeds)), told)
        self.assertEqual(deeds, before)
        self.assertFalse(has_lists(told) or has_lists(desk.presses))

    def test_items_of_generators_are_tuples(self):
        for item in list(rows_with("..", "ab", CLAIM, longest=3)) + list(all_orders(STOCK, "..", "ab")):
            self.assertIsInstance(item, tuple)
