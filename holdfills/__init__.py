"""Shapes with places, and programs FOR ALL things."""
