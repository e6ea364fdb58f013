"""Wholefaces: meshes of solids with exact angles."""
