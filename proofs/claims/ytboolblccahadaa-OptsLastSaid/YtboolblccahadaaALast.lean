/-
  What Last and Has return. Conditions: at most 100000 options, in memory, their letters bytes.
-/
import Derived.Test.YtboolblccahadaaAMem
import Derived.Test.YtboolblccahadaaShelf
import Derived.Deep.WholeRow
import Derived.Deep.QuietTactic
import Derived.BigQuiet
set_option linter.unusedVariables false
set_option linter.unusedSimpArgs false
namespace Go.Proofs.Ytboolblccahadaa.A
open Go.Proofs.Ytboolblccahadaa.B
open Go.RowKit

/-! ### the model -/
/-- Is an option's letter one of these? -/
def oneOf (s : List UInt8) (o : Op) : Bool := s.any fun c => decide (o.letter = (c.toNat : Int))
theorem last_def (l : List Op) (s : List UInt8) : lastM l s = l.reverse.find? (oneOf s) := rfl
theorem last_none {l : List Op} {s : List UInt8} (h : ∀ (j : Nat) (o : Op), l[j]? = some o → oneOf s o = false) : lastM l s = none := by
  rw [last_def, List.find?_eq_none]
  intro o ho
  obtain ⟨j, hj⟩ := List.mem_iff_getElem?.1 (List.mem_reverse.1 ho)
  rw [h j o hj]
  simp
theorem last_hit {l : List Op} {s : List UInt8} {i : Nat} {o : Op} (ho : l[i]? = some o) (hp : oneOf s o = true) (h : ∀ (j : Nat) (x : Op), i < j → l[j]? = some x → oneOf s x = false) : lastM l s = some o := by
  obtain ⟨hi, he⟩ := List.getElem?_eq_some_iff.1 ho
  have e : l = l.take i ++ (o :: l.drop (i + 1)) := by rw [← he]; simp
  rw [last_def, e, List.reverse_append, List.reverse_cons, List.append_assoc, List.find?_append]
  have hn : (l.drop (i + 1)).reverse.find? (oneOf s) = none := by
    rw [List.find?_eq_none]
    intro x hx
    obtain ⟨j, hj⟩ := List.mem_iff_getElem?.1 (List.mem_reverse.1 hx)
    rw [List.getElem?_drop] at hj
    rw [h _ x (by omega) hj]
    simp
  rw [hn, Option.none_or, List.singleton_append, List.find?_cons_of_pos hp]
theorem last_take {l : List Op} {s : List UInt8} {i : Nat} {o : Op} (ho : l[i]? = some o) : lastM (l.take (i + 1)) s = if oneOf s o = true then some o else lastM (l.take i) s := by
  have e : l.take (i + 1) = l.take i ++ [o] := by rw [List.take_add_one, ho]; rfl
  rw [e]
  exact last_snoc _ _ _
theorem ib_mem (b : UInt8) : ∀ l : List UInt8, (0 ≤ Lib.indexByte l b ↔ b ∈ l)
  | [] => by simp [Lib.indexByte]
  | c :: l => by
    have ih := ib_mem b l
    have hg := Lib.indexByte_ge l b
    unfold Lib.indexByte
    by_cases h : c = b
    · subst h
      simp
    · have h2 : (c == b) = false := beq_eq_false_iff_ne.2 h
      rw [h2, if_neg (by simp)]
      by_cases h3 : Lib.indexByte l b = -1
      · rw [h3, if_pos (by simp)]
        rw [h3] at ih
        constructor
        · intro z; omega
        · intro z
          rcases List.mem_cons.1 z with z | z
          · exact absurd z.symm h
          · have := ih.2 z; omega
      · rw [if_neg (by simpa using h3)]
        constructor
        · intro z
          exact List.mem_cons_of_mem _ (ih.1 (by omega))
        · intro z
          omega
theorem oneOf_ib {o : Op} (s : List UInt8) (h0 : 0 ≤ o.letter) (h1 : o.letter < 256) : (oneOf s o = true ↔ 0 ≤ Lib.indexByte s o.letter.toNat.toUInt8) := by
  have hb : (o.letter.toNat.toUInt8.toNat : Int) = o.letter := by
    rw [show o.letter.toNat.toUInt8.toNat = o.letter.toNat % 256 from rfl]
    omega
  rw [ib_mem]
  unfold oneOf
  rw [List.any_eq_true]
  constructor
  · rintro ⟨c, hc, he⟩
    have he := of_decide_eq_true he
    have : o.letter.toNat.toUInt8 = c := UInt8.toNat_inj.1 (by omega)
    rw [this]
    exact hc
  · intro hm
    exact ⟨_, hm, decide_eq_true hb.symm⟩
def noOp : Op := ⟨0, ⟨#[]⟩⟩
def opR (r : Option Op) : Value := .tuple #[opV (r.getD noOp), .bool r.isSome]
def noOpC : Array Value := #[.int .u8 0, .string ⟨#[]⟩]

/-! ### Last -/
def LasRel (l : List Op) (s : List UInt8) (w1 : World) (v : Value) (wr : World) : Prop := ∃ k : Nat, k ≤ l.length ∧ v = .int .i64 ((k : Int) - 1) ∧ Hid (∀ (j : Nat) (x : Op), k ≤ j → l[j]? = some x → oneOf s x = false) ∧ wr = w1
set_option maxRecDepth 100000 in
set_option maxHeartbeats 4000000 in
theorem last_any (l : List Op) (s : ByteArray) (a : Option Addr) (cap : Nat) (w : World) (H : RowL 2 opC w a l) (hl : l.length ≤ 100000) (hw : ∀ o ∈ l, 0 ≤ o.letter ∧ o.letter < 256) :
    Calls Try.prog 13 #[.slice a l.length cap, .string s] w fun e w' => e = .returned (opR (lastM l (listB s))) ∧ Below w.heap.size w w' := by
  have HA := Lib.hid ((Below.refl w.heap.size w).alloc (Nat.le_refl _) (.cells noOpC 35))
  have HX := Lib.hid (heap_alloc_new w (.cells noOpC 35))
  have HR := Lib.hid H
  have HW := Lib.hid hw
  unfold noOpC at HA HX
  clear H hw
  go_enter Try.func13, Try.ntmps13
  go_wp2_with fail
  generalize w.alloc (.cells #[.int .u8 0, .string ⟨#[]⟩] 35) = w1 at HA HX ⊢
  go_loopw [6] (LasRel l (listB s) w1) (fun v _ => (intOf v + 1).toNat)
  case atStart => exact ⟨l.length, Nat.le_refl _, rfl, Lib.hid (fun j x hj hx => by have := (List.getElem?_eq_some_iff.1 hx).1; omega), rfl⟩
  case round =>
    obtain ⟨k, hk, rfl, HNo, rfl⟩ := hrel
    cases k with
    | succ j =>
      rw [show (((j + 1 : Nat) : Int) - 1) = (j : Int) by omega]
      have e1 : decide ((0 : Int) ≤ (j : Int)) = true := decide_eq_true (by omega)
      obtain ⟨o, ho⟩ : ∃ o, l[j]? = some o := ⟨_, List.getElem?_eq_getElem (by omega)⟩
      have HOo := Lib.hid ho
      obtain ⟨g, of, rfl, hg, hr⟩ := (HR.out.keep HA.out).at_ ho
      have r0 : wr.cell? ⟨g, of + j * 2, none⟩ = some (.int .u8 o.letter) := hr 0 _ rfl
      have r1 : wr.cell? ⟨g, of + j * 2 + 1, none⟩ = some (.string o.value) := hr 1 _ rfl
      obtain ⟨hw0, hw1⟩ := HW.out o (List.mem_of_getElem? ho)
      have HIb := Lib.hid (Try.strings_IndexByte s o.letter wr)
      have hib := oneOf_ib (o := o) (listB s) hw0 hw1
      rw [show Lib.indexByte s.data.toList o.letter.toNat.toUInt8 = Lib.indexByte (listB s) o.letter.toNat.toUInt8 from rfl] at HIb
      generalize Lib.indexByte (listB s) o.letter.toNat.toUInt8 = I at HIb hib
      clear ho hr hg
      by_cases hp : oneOf (listB s) o = true
      · have e2 : decide ((0 : Int) ≤ I) = true := decide_eq_true (hib.1 hp)
        have HF := Lib.hid (last_hit HOo.out hp (fun j' x hj hx => HNo.out j' x (by omega) hx))
        clear hib hp
        go_wp2_with (first
          | (go_at_call 20; refine HIb.out.mono ?_; rintro e w3 ⟨rfl, hw3⟩; subst hw3)
          | (refine wpList_store_row rfl 35 (.tmp 4) (.tmp 25) rfl w.heap.size (opC o).toArray rfl rfl _ _ HX.out sizeOp rfl (by simp [opC, Value.oneCell']) ?_))
        have HXc := Lib.hid (setRow_heap _ w.heap.size _ (opC o).toArray _ _ HX.out)
        refine bodyPost_ret (v := opR (some o)) ?_ rfl ⟨by rw [HF.out], below_setRow HA.out (Nat.le_refl _) _⟩
        exact results_pair Try.results13 _ _ w.heap.size _ _ _ _ _ rfl rfl HXc.out Try.underlying35 rfl sizeOp
      · have e2 : decide ((0 : Int) ≤ I) = false := decide_eq_false (fun z => hp (hib.2 z))
        rw [Bool.not_eq_true] at hp
        have HN := Lib.hid (show ∀ (j' : Nat) (x : Op), j ≤ j' → l[j']? = some x → oneOf (listB s) x = false from fun j' x hj hx => by
          rcases Nat.lt_or_ge j j' with q | q
          · exact HNo.out j' x (by omega) hx
          · obtain rfl : j = j' := by omega
            rw [HOo.out] at hx
            obtain rfl := Option.some.inj hx
            exact hp)
        clear hib hp
        go_wp2_with (go_at_call 20; refine HIb.out.mono ?_; rintro e w3 ⟨rfl, hw3⟩; subst hw3)
        go_roundw
        case rel => exact ⟨j, by omega, by simp, HN, rfl⟩
        case measure => simp [intOf]
    | zero =>
      rw [show (((0 : Nat) : Int) - 1) = -1 by omega]
      have HF := Lib.hid (last_none (l := l) (s := listB s) (fun j x hx => HNo.out j x (Nat.zero_le _) hx))
      go_wp2_with (refine wpList_store_row rfl 35 (.tmp 4) (.tmp 26) rfl w.heap.size noOpC rfl rfl _ _ HX.out sizeOp rfl (by simp [noOpC, Value.oneCell']) ?_)
      have HXc := Lib.hid (setRow_heap _ w.heap.size _ noOpC _ _ HX.out)
      refine bodyPost_ret (v := opR none) ?_ rfl ⟨by rw [HF.out], below_setRow HA.out (Nat.le_refl _) _⟩
      exact results_pair Try.results13 _ _ w.heap.size _ _ _ _ _ rfl rfl HXc.out Try.underlying35 rfl sizeOp

/-! ### Has -/
def HasRel (l : List Op) (c : Int) (w : World) (v : Value) (wr : World) : Prop := ∃ i : Nat, i ≤ l.length ∧ v = .int .i64 (i : Int) ∧ Hid (∀ (j : Nat) (x : Op), j < i → l[j]? = some x → x.letter ≠ c) ∧ Hid (Below w.heap.size w wr)
set_option maxRecDepth 100000 in
set_option maxHeartbeats 4000000 in
theorem has_any (l : List Op) (c : Int) (a : Option Addr) (cap : Nat) (w : World) (H : RowL 2 opC w a l) (hl : l.length ≤ 100000) :
    Calls Try.prog 14 #[.slice a l.length cap, .int .u8 c] w fun e w' => e = .returned (.bool (l.any fun o => decide (o.letter = c))) ∧ Below w.heap.size w w' := by
  have HR := Lib.hid H
  clear H
  go_enter Try.func14, Try.ntmps14
  go_wp2_with fail
  go_loopw [9] (HasRel l c w) (fun v _ => l.length - (intOf v).toNat)
  case atStart => exact ⟨0, Nat.zero_le _, rfl, Lib.hid (fun j x hj => by omega), Lib.hid (Below.refl _ _)⟩
  case round =>
    obtain ⟨i, hi, rfl, HNo, HB⟩ := hrel
    by_cases hlt : i < l.length
    · have e1 : decide ((i : Int) < (l.length : Int)) = true := decide_eq_true (by omega)
      obtain ⟨o, ho⟩ : ∃ o, l[i]? = some o := ⟨_, List.getElem?_eq_getElem hlt⟩
      have HOo := Lib.hid ho
      obtain ⟨g, of, rfl, hg, hr⟩ := (HR.out.keep HB.out).at_ ho
      have r0 : wr.cell? ⟨g, of + i * 2, none⟩ = some (.int .u8 o.letter) := hr 0 _ rfl
      have r1 : wr.cell? ⟨g, of + i * 2 + 1, none⟩ = some (.string o.value) := hr 1 _ rfl
      clear ho hr hg
      have HBa := Lib.hid (HB.out.alloc HB.out.size (.cells #[.int .u8 o.letter, .string o.value] 35))
      by_cases hc : o.letter = c
      · have e2 : (o.letter == c) = true := beq_iff_eq.2 hc
        have HF := Lib.hid (show (l.any fun o => decide (o.letter = c)) = true from List.any_eq_true.2 ⟨o, List.mem_of_getElem? HOo.out, decide_eq_true hc⟩)
        clear hc
        go_wp2_with fail
        go_ret
        exact ⟨by rw [HF.out]; rfl, HBa.out⟩
      · have e2 : (o.letter == c) = false := beq_eq_false_iff_ne.2 hc
        have HN := Lib.hid (show ∀ (j : Nat) (x : Op), j < i + 1 → l[j]? = some x → x.letter ≠ c from fun j x hj hx => by
          rcases Nat.lt_or_ge j i with q | q
          · exact HNo.out j x q hx
          · obtain rfl : j = i := by omega
            rw [HOo.out] at hx
            obtain rfl := Option.some.inj hx
            exact hc)
        clear hc
        go_wp2_with fail
        go_roundw
        case rel => exact ⟨i + 1, by omega, by simp, HN, HBa⟩
        case measure => simp [intOf]; omega
    · have e1 : decide ((i : Int) < (l.length : Int)) = false := decide_eq_false (by omega)
      have HF := Lib.hid (show (l.any fun o => decide (o.letter = c)) = false from by
        rw [List.any_eq_false]
        intro o ho
        obtain ⟨j, hj⟩ := List.mem_iff_getElem?.1 ho
        have := HNo.out j o (by have := (List.getElem?_eq_some_iff.1 hj).1; omega) hj
        simpa using this)
      go_wp2_with fail
      go_ret
      exact ⟨by rw [HF.out]; rfl, HB.out⟩
end Go.Proofs.Ytboolblccahadaa.A
