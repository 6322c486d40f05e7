"""Headgap: converters that rewrite a text within one array, and the room that they need."""
