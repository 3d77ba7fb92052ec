"""Sheetmoves: counters on an endless sheet, and colourings that bar."""
