"""Several formulas at once: common trees and their codes."""
