/-
  Numbers of 64 bits; a node's numbers within their bounds. Conditions: none.
-/
import Derived.Test.YtigkdehaepenhaaDoorPMay
set_option linter.unusedSimpArgs false
set_option linter.unusedVariables false
namespace Go.Proofs.YtigkdehaepenhaaDoor.J

def I64 (x : Int) : Prop := -9223372036854775808 ≤ x ∧ x ≤ 9223372036854775807
theorem i64_small {x : Int} (h : 0 ≤ x) (h2 : x ≤ 9223372036854775807) : I64 x := ⟨by omega, h2⟩
/-- The numbers of a node, as they are told. -/
structure NumJ (n : P.Nv) : Prop where
  size : I64 n.size
  blk : I64 n.blocks
  ta : I64 n.ta
  tb : I64 n.tb
  tc : I64 n.tc
  uid : I64 n.uid
  gid : I64 n.gid
  ino : I64 n.ino
  dev : I64 n.dev
  lnk : I64 n.links
  m0 : 0 ≤ n.mode
  m1 : n.mode < 4096
  kind : n.kind = 1 ∨ n.kind = 2 ∨ n.kind = 3
end Go.Proofs.YtigkdehaepenhaaDoor.J
