"""Names taken out one by one: the parts that are left, the bags, the whole by an order."""

from sumorder.errors import NoName
from sumorder.helper import is_order, is_order_of_all, joined_parts
from sumorder.joins import gathered, widened


def taken_out(word, sheet, order):
    """Tell the parts that are left and the bags, one for each name of the order; else NoName."""
    sizes, parts = sheet
    if not is_order(sizes, order):
        raise NoName("no tuple of unlike names")
    left, bags = list(parts), []
    for name in order:
        having = [part for part in left if name in part[0]]
        part = widened(sizes, joined_parts(word, sizes, having), (name,))
        bags.append(part[0])
        left = [other for other in left if name not in other[0]]
        left.append(gathered(word, sizes, part, name))
    return (left, bags)


def whole_by(word, sheet, order):
    """Tell the whole by taking out all names in this order; else NoName."""
    sizes = sheet[0]
    if not is_order_of_all(sizes, order):
        raise NoName("no order of all names")
    left = taken_out(word, sheet, order)[0]
    return joined_parts(word, sizes, left)[1][0]
