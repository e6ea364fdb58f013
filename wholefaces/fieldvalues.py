"""The values of expressions and fields at points."""

from wholefaces.checks import demand
from wholefaces.kinds import is_point, is_row
from wholefaces.treeparts import expression_fits, fields_fit, names_in
from wholefaces.wordnames import is_name_of


def product_of(numbers):
    """The product of a few integers."""
    product = 1
    for number in numbers:
        product = product * number
    return product


def expression_value(values, expression, point):
    """The value of an expression at a point, the values of the fields there being known by their names."""
    word, part = expression[0], expression[1]
    if word == "number":
        return part
    if word == "axis":
        return point[part]
    if word == "field":
        return values[part]
    if word == "sum":
        return sum([sign * expression_value(values, term, point) for sign, term in part])
    if word == "product":
        return product_of([expression_value(values, factor, point) for factor in part])
    if word == "abs":
        return abs(expression_value(values, part, point))
    one = expression_value(values, part, point)
    other = expression_value(values, expression[2], point)
    return min(one, other) if word == "min" else max(one, other)


def field_values(fields, point):
    """The values of all fields at a point, by their names."""
    values = {}
    for name, expression in fields:
        values[name] = expression_value(values, expression, point)
    return values


def field_value(fields, field, point):
    """The value of one of the fields at a point."""
    return field_values(fields, point)[field]


def demand_field(dims, fields, field):
    """Raises NotUsable unless these are fields, with axes of so many dims, and the name of one of them."""
    demand(fields_fit(dims, fields), "fields")
    demand(is_name_of(names_in(fields), field), "field")


def has_third_axis(expression):
    """Whether the axis 2 stands in an expression."""
    word, part = expression[0], expression[1]
    if word == "axis":
        return part == 2
    if word in ("number", "field"):
        return False
    if word == "sum":
        return any([has_third_axis(term) for _, term in part])
    if word == "product":
        return any([has_third_axis(factor) for factor in part])
    return any([has_third_axis(argument) for argument in expression[1:]])


def value_of(fields, expression, point):
    """The value of the expression, in which names of the fields may stand, at the point."""
    demand(expression_fits(3, names_in(fields), expression), "expression")
    flat = not has_third_axis(expression) and not any([has_third_axis(tree) for _, tree in fields])
    demand(is_row(3, point) or (flat and is_row(2, point)), "point")
    return expression_value(field_values(fields, point), expression, point)


def field_at(frame, field, point):
    """The value of the field of the frame at the point."""
    space, fields = frame[0][0], frame[3]
    demand(is_name_of(names_in(fields), field), "field")
    demand(is_point(space, point), "point")
    return field_value(fields, field, point)
