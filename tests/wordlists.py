"""The reserved words of [31]."""

RESERVED = ("space rounds cubes deep region solid field worth wish all box upto not and or x y z min max abs generation level stage size low high "
            "least most error in out cut has corner bad").split()
