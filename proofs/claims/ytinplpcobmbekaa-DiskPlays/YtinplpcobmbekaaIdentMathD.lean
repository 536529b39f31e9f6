/-
  Plain facts on cells' words: a word's parts and digits, the word of a cell, the cell of a word, that they are one to one, how words are raised, how they rise; for any numbers, within the bounds written.
-/
import Derived.Test.YtinplpcobmbekaaProg
import Derived.Handy
import Derived.Deep.QuietTactic
import Derived.WalkSpells
import Derived.WalkLawsBesides
import Derived.BigQuiet
import Derived.PlainAid
import Derived.Deep.RegionWith
import Derived.Laws.BitsAllLaws
namespace Go.Proofs.Ytinplpcobmbekaa
open Go.RowKit

def wA (w : Int) : Int := w / 70368744177664 % 1024 - 512

/-- A word out of its parts. -/
def lowD (d : Nat → Int) : Int := d 1 * 8589934592 + d 2 * 1073741824 + d 3 * 134217728 + d 4 * 16777216 + d 5 * 2097152 + d 6 * 262144 + d 7 * 32768 + d 8 * 4096 + d 9 * 512 + d 10 * 64 + d 11 * 8 + d 12

def headD (R A B : Int) : Int := 1152921504606846976 + R * 72057594037927936 + (A + 512) * 70368744177664 + (B + 512) * 68719476736

def wd (R A B : Int) (d : Nat → Int) : Int := headD R A B + lowD d

end Go.Proofs.Ytinplpcobmbekaa
