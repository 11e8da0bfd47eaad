"""Evenrules: numbers that keep sorted trees and shelves of pages fair, judged for all of them."""
