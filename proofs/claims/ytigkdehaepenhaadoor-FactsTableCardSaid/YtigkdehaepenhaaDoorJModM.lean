/-
  What a fact's format tells of a node: directive by directive. Conditions: none.
-/
import Derived.Test.YtigkdehaepenhaaDoorJNum
import Derived.Test.YtigkdehaepenhaaDoorBase
import Derived.Test.YtigkdehaepenhaaDoorSMath
import Derived.Test.YtigkdehaepenhaaDoorPText
import Derived.Lib.IndexLaws
import Derived.Lib.ItoaLen
import Derived.Test.YtigkdehaepenhaaDoorRefDec
set_option linter.unusedSimpArgs false
set_option linter.unusedVariables false
namespace Go.Proofs.YtigkdehaepenhaaDoor.J
open Go.Proofs.YtigkdehaepenhaaDoor.B

abbrev By := List UInt8
def dirW : By := [100, 105, 114, 101, 99, 116, 111, 114, 121]
def lnkW : By := [115, 121, 109, 98, 111, 108, 105, 99, 32, 108, 105, 110, 107]
def emptyW : By := [114, 101, 103, 117, 108, 97, 114, 32, 101, 109, 112, 116, 121, 32, 102, 105, 108, 101]
def fileW : By := [114, 101, 103, 117, 108, 97, 114, 32, 102, 105, 108, 101]
/-- What a node is, in words. -/
def whatL (n : P.Nv) : By := if n.kind = 2 then dirW else if n.kind = 3 then lnkW else if n.size = 0 then emptyW else fileW
def octL (m : Int) : By := N.digB (8 : Int).toNat m.toNat
/-- What a directive tells. -/
def oneJ (n : P.Nv) (nm qt : By) (c : UInt8) : Option By :=
  if c = 110 then some nm
  else if c = 78 then some qt
  else if c = 115 then some (Lib.itoa n.size)
  else if c = 98 then some (Lib.itoa n.blocks)
  else if c = 97 then some (octL n.mode)
  else if c = 65 then some (P.textP n.kind n.mode)
  else if c = 117 then some (Lib.itoa n.uid)
  else if c = 103 then some (Lib.itoa n.gid)
  else if c = 105 then some (Lib.itoa n.ino)
  else if c = 100 then some (Lib.itoa n.dev)
  else if c = 104 then some (Lib.itoa n.links)
  else if c = 70 then some (whatL n)
  else if c = 88 then some (Lib.itoa n.ta)
  else if c = 89 then some (Lib.itoa n.tb)
  else if c = 90 then some (Lib.itoa n.tc)
  else if c = 37 then some [37]
  else none
def txt (l : By) : ByteArray := ⟨l.toArray⟩
theorem txt_size (l : By) : (txt l).size = l.length := by show l.toArray.size = _; simp
theorem txt_append (a b : By) : txt a ++ txt b = txt (a ++ b) := by
  unfold txt
  rw [ByteArray.mk_append_mk]
theorem txt_list (l : By) : (txt l).data.toList = l := by simp [txt]
theorem txt_of (s : ByteArray) : txt s.data.toList = s := by cases s; rfl
theorem itoa_len {n : Int} (h : I64 n) : (Lib.itoa n).length ≤ 21 := Lib.itoa_length_le n h.1 h.2
theorem what_len (n : P.Nv) : (whatL n).length ≤ 18 := by
  unfold whatL
  repeat' split
  all_goals decide
theorem textP_len (k m : Int) : (P.textP k m).length ≤ 10 := by
  unfold P.textP P.kindL P.clsL
  repeat' split
  all_goals simp
theorem oct_len {m : Int} (h0 : 0 ≤ m) (h1 : m < 4096) : (octL m).length ≤ 64 := N.digB_size 8 m (by decide) (by omega)
theorem oneJ_len {n : P.Nv} (h : NumJ n) {nm qt : By} {K : Nat} (h1 : nm.length ≤ K) (h2 : qt.length ≤ K) (h3 : 64 ≤ K) (c : UInt8) (s : By) (hs : oneJ n nm qt c = some s) : s.length ≤ K := by
  unfold oneJ at hs
  have a1 := itoa_len h.size
  have a2 := itoa_len h.blk
  have a3 := itoa_len h.uid
  have a4 := itoa_len h.gid
  have a5 := itoa_len h.ino
  have a6 := itoa_len h.dev
  have a7 := itoa_len h.lnk
  have a8 := itoa_len h.ta
  have a9 := itoa_len h.tb
  have b1 := itoa_len h.tc
  have b2 := what_len n
  have b3 := textP_len n.kind n.mode
  have b4 := oct_len h.m0 h.m1
  by_cases e110 : c = 110
  · rw [if_pos e110] at hs
    obtain rfl := Option.some.inj hs
    omega
  rw [if_neg e110] at hs
  by_cases e78 : c = 78
  · rw [if_pos e78] at hs
    obtain rfl := Option.some.inj hs
    omega
  rw [if_neg e78] at hs
  by_cases e115 : c = 115
  · rw [if_pos e115] at hs
    obtain rfl := Option.some.inj hs
    omega
  rw [if_neg e115] at hs
  by_cases e98 : c = 98
  · rw [if_pos e98] at hs
    obtain rfl := Option.some.inj hs
    omega
  rw [if_neg e98] at hs
  by_cases e97 : c = 97
  · rw [if_pos e97] at hs
    obtain rfl := Option.some.inj hs
    omega
  rw [if_neg e97] at hs
  by_cases e65 : c = 65
  · rw [if_pos e65] at hs
    obtain rfl := Option.some.inj hs
    omega
  rw [if_neg e65] at hs
  by_cases e117 : c = 117
  · rw [if_pos e117] at hs
    obtain rfl := Option.some.inj hs
    omega
  rw [if_neg e117] at hs
  by_cases e103 : c = 103
  · rw [if_pos e103] at hs
    obtain rfl := Option.some.inj hs
    omega
  rw [if_neg e103] at hs
  by_cases e105 : c = 105
  · rw [if_pos e105] at hs
    obtain rfl := Option.some.inj hs
    omega
  rw [if_neg e105] at hs
  by_cases e100 : c = 100
  · rw [if_pos e100] at hs
    obtain rfl := Option.some.inj hs
    omega
  rw [if_neg e100] at hs
  by_cases e104 : c = 104
  · rw [if_pos e104] at hs
    obtain rfl := Option.some.inj hs
    omega
  rw [if_neg e104] at hs
  by_cases e70 : c = 70
  · rw [if_pos e70] at hs
    obtain rfl := Option.some.inj hs
    omega
  rw [if_neg e70] at hs
  by_cases e88 : c = 88
  · rw [if_pos e88] at hs
    obtain rfl := Option.some.inj hs
    omega
  rw [if_neg e88] at hs
  by_cases e89 : c = 89
  · rw [if_pos e89] at hs
    obtain rfl := Option.some.inj hs
    omega
  rw [if_neg e89] at hs
  by_cases e90 : c = 90
  · rw [if_pos e90] at hs
    obtain rfl := Option.some.inj hs
    omega
  rw [if_neg e90] at hs
  by_cases e37 : c = 37
  · rw [if_pos e37] at hs
    obtain rfl := Option.some.inj hs
    show 1 ≤ K; omega
  rw [if_neg e37] at hs
  cases hs
def arrow : ByteArray := ⟨#[32, 45, 62, 32]⟩
/-- A node's name in quotes, and a link's text. -/
def quotB (qf : ByteArray → ByteArray) (k : Int) (s t : ByteArray) : ByteArray := if k = 3 then qf s ++ (arrow ++ qf t) else qf s
/-- What a format tells. -/
def fmtJ (n : P.Nv) (nm qt : By) (l : By) : By := S.fmtL (oneJ n nm qt) l
theorem oneJ_pct (n : P.Nv) (nm qt : By) : oneJ n nm qt 37 = some [37] := rfl
theorem fmtJ_pair (n : P.Nv) (nm qt : By) (e : UInt8) (r : By) : fmtJ n nm qt (37 :: e :: r) = (oneJ n nm qt e).getD [37, e] ++ fmtJ n nm qt r := by
  unfold fmtJ
  cases h : oneJ n nm qt e with
  | some s => rw [S.fmtL_told _ _ h]; rfl
  | none =>
    rw [S.fmtL_none _ _ h, S.fmtL_plain]
    · rfl
    · intro hc
      subst hc
      rw [oneJ_pct] at h
      cases h
theorem fmtJ_len {n : P.Nv} (h : NumJ n) {nm qt : By} {K : Nat} (h1 : nm.length ≤ K) (h2 : qt.length ≤ K) (h3 : 64 ≤ K) (l : By) : (fmtJ n nm qt l).length ≤ K * l.length :=
  S.fmtL_length _ K (fun c s hs => oneJ_len h h1 h2 h3 c s hs) (by omega) l.length l (Nat.le_refl _)
/-- Bytes without a % stay as they are. -/
theorem fmtJ_plain (n : P.Nv) (nm qt : By) : ∀ (a r : By), (∀ c ∈ a, c ≠ 37) → fmtJ n nm qt (a ++ r) = a ++ fmtJ n nm qt r
  | [], r, _ => rfl
  | c :: a, r, h => by
    have ih := fmtJ_plain n nm qt a r fun x hx => h x (List.mem_cons_of_mem _ hx)
    unfold fmtJ at ih ⊢
    rw [List.cons_append, S.fmtL_plain _ _ (h c List.mem_cons_self), ih]
    rfl
theorem fmtJ_none (n : P.Nv) (nm qt : By) (a : By) (h : ∀ c ∈ a, c ≠ 37) : fmtJ n nm qt a = a := by
  have := fmtJ_plain n nm qt a [] h
  rw [List.append_nil] at this
  rw [this]
  show a ++ S.fmtL _ [] = a
  rw [S.fmtL_nil, List.append_nil]
/-- A % alone at the end stays as it is. -/
theorem fmtJ_end (n : P.Nv) (nm qt : By) (a : By) (h : ∀ c ∈ a, c ≠ 37) : fmtJ n nm qt (a ++ [37]) = a ++ [37] := by
  rw [fmtJ_plain n nm qt a _ h]
  show a ++ S.fmtL _ [37] = _
  rw [S.fmtL_last]
theorem fmtJ_no {n : P.Nv} {nm qt l : By} (h : Lib.indexByte l 37 = -1) : fmtJ n nm qt l = l := fmtJ_none n nm qt l fun c hc e => by
  obtain ⟨k, hk⟩ := List.mem_iff_getElem?.1 hc
  exact Lib.indexByte_none h k (by rw [hk, e])
theorem at_split {l : By} {i : Nat} (h : Lib.indexByte l 37 = (i : Int)) : i < l.length ∧ (∀ c ∈ l.take i, c ≠ 37) ∧ l.drop i = 37 :: l.drop (i + 1) := by
  obtain ⟨h1, h2⟩ := Lib.indexByte_some h
  obtain ⟨hi, he⟩ := List.getElem?_eq_some_iff.1 h1
  refine ⟨hi, fun c hc e => ?_, by rw [List.drop_eq_getElem_cons hi, he]⟩
  obtain ⟨k, hk⟩ := List.mem_iff_getElem?.1 hc
  rw [List.getElem?_take] at hk
  split at hk
  · exact h2 k (by assumption) (by rw [hk, e])
  · cases hk
theorem fmtJ_last {n : P.Nv} {nm qt l : By} {i : Nat} (h : Lib.indexByte l 37 = (i : Int)) (hl : i + 1 = l.length) : fmtJ n nm qt l = l := by
  obtain ⟨_, h2, h3⟩ := at_split h
  have e : l = l.take i ++ [37] := by
    conv => lhs; rw [← List.take_append_drop i l, h3]
    rw [List.drop_of_length_le (by omega)]
  rw [e]
  exact fmtJ_end n nm qt _ h2
theorem fmtJ_step {n : P.Nv} {nm qt l : By} {i : Nat} {c : UInt8} (h : Lib.indexByte l 37 = (i : Int)) (hc : l[i + 1]? = some c) : fmtJ n nm qt l = l.take i ++ ((oneJ n nm qt c).getD [37, c] ++ fmtJ n nm qt (l.drop (i + 2))) := by
  obtain ⟨_, h2, h3⟩ := at_split h
  obtain ⟨hi, he⟩ := List.getElem?_eq_some_iff.1 hc
  have e : l.drop (i + 1) = c :: l.drop (i + 2) := by rw [List.drop_eq_getElem_cons hi, he]
  conv => lhs; rw [← List.take_append_drop i l, h3, e]
  rw [fmtJ_plain n nm qt _ _ h2, fmtJ_pair]
/-- Two formats, the first of which doesn't end with a %, are told one behind the other. -/
theorem fmtJ_append (n : P.Nv) (nm qt : By) (f g : By) (h : f.getLast? ≠ some 37) : fmtJ n nm qt (f ++ g) = fmtJ n nm qt f ++ fmtJ n nm qt g := S.fmtL_append _ g f.length f (Nat.le_refl _) h
end Go.Proofs.YtigkdehaepenhaaDoor.J
