/-
  PathNames: for every text the call returns true, and the text reads as before. Conditions: the row's own.
-/
import Derived.Test.YtemjlamgnkjejaaHNames
import Derived.Deep.QuietTactic
import Derived.BigQuiet
import Derived.ProofKit
import Derived.SizedLaws
set_option linter.unusedVariables false
namespace Go.Proofs.Ytemjlamgnkjejaa
open Go.RowKit

theorem hret_bool {a b : Bool} (h : a = b) : Ending.returned (.bool a) = .returned (.bool b) := by rw [h]
theorem hbelow_two {w a b : World} (h : Below w.heap.size w a) (k : Below a.heap.size a b) : Below w.heap.size w b := h.trans (k.mono h.size)

set_option maxRecDepth 100000 in
theorem hawake_any (w : World) :
    Calls Try.prog 7 #[] w fun e w' => e = .returned (.bool true) ∧ Below w.heap.size w w' := by
  have HN := Lib.hid (names_any ⟨#[47, 97, 47, 47, 98, 47]⟩ w (by decide))
  have e1 : (namesL ⟨#[47, 97, 47, 47, 98, 47]⟩).length = 2 := by decide +kernel
  have e2 : beginsB ⟨#[47, 97, 47, 47, 98, 47]⟩ = true := by decide +kernel
  have e3 : endsB ⟨#[47, 97, 47, 47, 98, 47]⟩ = true := by decide +kernel
  rw [e1, e2, e3] at HN
  clear e1 e2 e3
  go_enter Try.func7, Try.ntmps7
  go_wp2_with (go_at_call 8; refine HN.out.mono ?_; rintro e w2 ⟨A, rfl, hA, hown, hb⟩; have HB := Lib.hid hb; clear hown hb)
  go_ret
  exact ⟨rfl, HB.out⟩

theorem byte_is (c : UInt8) : ((c.toNat : Int) == 47) = (c == 47) := by
  rw [Bool.eq_iff_iff, beq_iff_eq, beq_iff_eq]
  constructor
  · intro h
    apply UInt8.toNat_inj.1
    have : (47 : UInt8).toNat = 47 := rfl
    omega
  · intro h
    rw [h]
    rfl
theorem begins_at {s : ByteArray} (h : 0 < s.size) : beginsB s = (((s[0]'h).toNat : Int) == 47) := by
  unfold beginsB Lib.hasPrefix
  have h0 : s.data.toList[0]? = some (s[0]'h) := Lib.data_getElem? s 0 h
  generalize s[0]'h = c at h0 ⊢
  generalize s.data.toList = l at h0 ⊢
  cases l with
  | nil => simp at h0
  | cons x r =>
    obtain rfl : x = c := by simpa using h0
    rw [byte_is]
    simp [List.isPrefixOf]
    rw [Bool.eq_iff_iff, beq_iff_eq, beq_iff_eq]
    exact eq_comm
theorem ends_at {s : ByteArray} (h : 0 < s.size) : endsB s = (((s[s.size - 1]'(by omega)).toNat : Int) == 47) := by
  unfold endsB Lib.hasSuffix
  have h0 : s.data.toList[s.size - 1]? = some (s[s.size - 1]'(by omega)) := Lib.data_getElem? s (s.size - 1) (by omega)
  generalize s[s.size - 1]'(by omega) = c at h0 ⊢
  have hl : s.data.toList.length = s.size := by simp
  rw [← hl] at h0
  generalize s.data.toList = l at h0 ⊢
  rw [byte_is]
  unfold List.isSuffixOf
  have hr : l.reverse[0]? = some c := by
    have hn : 0 < l.length := by
      have := (List.getElem?_eq_some_iff.1 h0).1
      omega
    rw [List.getElem?_reverse hn]
    simpa using h0
  cases hx : l.reverse with
  | nil => rw [hx] at hr; simp at hr
  | cons x r =>
    rw [hx] at hr
    obtain rfl : x = c := by simpa using hr
    simp [List.isPrefixOf]
    rw [Bool.eq_iff_iff, beq_iff_eq, beq_iff_eq]
    exact eq_comm
theorem begins_none {s : ByteArray} (h : s.size = 0) : beginsB s = false ∧ endsB s = false := by
  obtain rfl : s = ⟨#[]⟩ := ByteArray.ext (Array.size_eq_zero_iff.1 h)
  exact ⟨by decide +kernel, by decide +kernel⟩

def LawNRel (L : List ByteArray) (A : Nat) (v : Value) (w W : World) (i : Value) (wr : World) : Prop := ∃ k : Nat, k ≤ L.length ∧ i = .int .i64 (k : Int) ∧ Hid (Below w.heap.size w wr) ∧ Hid (wr.ownsRow 0 9 1 (.slice (some ⟨A, 0, none⟩) L.length L.length) L.length (strs L)) ∧ Hid (wr.ownsRow 0 9 1 v L.length (strs L))
theorem howns_zero {w : World} {b : Nat} {e : TypeId} {size n : Nat} {v : Value} {xs : List Value} (h : w.ownsRow b e size v n xs) : w.ownsRow 0 e size v n xs := by
  refine ⟨h.1, ?_⟩
  rcases h.2 with q | ⟨g, cap, cur, hv, hb, rest⟩
  · exact .inl q
  · exact .inr ⟨g, cap, cur, hv, Nat.zero_le _, rest⟩
theorem hkeep {w w' : World} {e : TypeId} {size n : Nat} {v : Value} {xs : List Value} (h : w.ownsRow 0 e size v n xs) (hb : Below w.heap.size w w') : w'.ownsRow 0 e size v n xs := by
  refine ⟨h.1, ?_⟩
  have hl : ∀ k, v.ownBlock = some k → k < w.heap.size := fun k hk => (h.lt k hk).2
  rcases h.2 with q | ⟨g, cap, cur, hv, hz, hg, rest⟩
  · exact .inl q
  · exact .inr ⟨g, cap, cur, hv, hz, by rw [hb.block g (hl g (by rw [hv]; rfl))]; exact hg, rest⟩
theorem hsome {w : World} {base : Nat} {e : TypeId} {size n : Nat} {v : Value} {xs : List Value} (h : w.ownsRow base e size v n xs) (hn : 0 < n) : ∃ g cap, v = .slice (some ⟨g, 0, none⟩) n cap ∧ n ≤ cap ∧ cap ≤ maxLen := by
  rcases h.2 with ⟨_, h⟩ | ⟨g, cap, cur, hv, hb, hg, hnc, hcm, _⟩
  · omega
  · exact ⟨g, cap, hv, hnc, hcm⟩
theorem hcell {w : World} {base : Nat} {e : TypeId} {size g n cap : Nat} {xs : List Value} (h : w.ownsRow base e size (.slice (some ⟨g, 0, none⟩) n cap) n xs) {j : Nat} {u : Value} (hu : xs[j]? = some u) : w.cell? ⟨g, j, none⟩ = some u := by
  have := h.cells (g := g) rfl j u hu
  have hadd : (⟨g, 0, none⟩ : Addr).add j = ⟨g, j, none⟩ := by unfold Addr.add; split <;> simp_all
  rwa [hadd] at this
theorem hbelow_drewN {B n : Nat} {w w' : World} (hb : Below B w w') : Below B w (w'.drewN n) := ⟨hb.os, hb.tape, hb.output, hb.size, hb.block⟩
theorem strs_at {L : List ByteArray} {k : Nat} {x : ByteArray} (h : L[k]? = some x) : (strs L)[k]? = some (.string x) := by
  unfold strs
  rw [List.getElem?_map, h]
  rfl
theorem namesL_len (s : ByteArray) : (namesL s).length ≤ s.size + 1 := by
  unfold namesL nmSpans
  rw [List.length_map]
  exact (nmGo_ok s (s.size + 1) (Nat.le_refl _)).1
set_option maxRecDepth 100000 in
set_option maxHeartbeats 4000000 in
theorem pnames_any (s : ByteArray) (w : World) (hs : s.size ≤ 9223372036854775807) :
    Calls Try.prog 3 #[.string s] w fun e w' => e = .returned (.bool true) ∧ Below w.heap.size w w' := by
  by_cases h4 : 5000 < s.size
  · have d4 : decide ((5000 : Int) < (s.size : Int)) = true := decide_eq_true (by omega)
    go_enter Try.func3, Try.ntmps3
    go_wp2_with fail
    refine (hawake_any _).mono ?_
    rintro e w2 ⟨rfl, hb⟩
    have HB := Lib.hid hb
    clear hb
    go_wp2_with fail
    refine (hawake_any _).mono ?_
    rintro e w3 ⟨rfl, hb⟩
    have HB3 := Lib.hid (hbelow_two HB.out hb)
    clear hb
    go_wp2_with fail
    go_ret
    exact ⟨rfl, HB3.out⟩
  · have d4 : decide ((5000 : Int) < (s.size : Int)) = false := decide_eq_false (by omega)
    obtain ⟨b0, b1, HNm, HT⟩ : ∃ b0 b1 : Bool, Hid (∀ W : World, Calls Try.prog 8 #[.string s] W fun e w' => ∃ A, e = .returned (.tuple #[.slice (some ⟨A, 0, none⟩) (namesL s).length (namesL s).length, .bool b0, .bool b1]) ∧ W.heap.size ≤ A ∧
      w'.ownsRow W.heap.size 9 1 (.slice (some ⟨A, 0, none⟩) (namesL s).length (namesL s).length) (namesL s).length (strs (namesL s)) ∧ Below W.heap.size W w') ∧ Hid ((s.size = 0 ∧ b0 = false ∧ b1 = false) ∨ ∃ h : 0 < s.size, b0 = (((s[0]'h).toNat : Int) == 47) ∧ b1 = (((s[s.size - 1]'(by omega)).toNat : Int) == 47)) := by
      by_cases hz : s.size = 0
      · exact ⟨false, false, Lib.hid (fun W => by have := names_any s W (by omega); rw [(begins_none hz).1, (begins_none hz).2] at this; exact this), Lib.hid (.inl ⟨hz, rfl, rfl⟩)⟩
      · have hp : 0 < s.size := by omega
        exact ⟨_, _, Lib.hid (fun W => by have := names_any s W (by omega); rw [begins_at hp, ends_at hp] at this; exact this), Lib.hid (.inr ⟨hp, rfl, rfl⟩)⟩
    have HR := Lib.hid (fun W : World => refNames_any s W (show s.size ≤ 100000 by omega))
    have hL := namesL_len s
    generalize namesL s = L at HNm HR hL
    go_enter Try.func3, Try.ntmps3
    go_wp2_with fail
    refine (hawake_any _).mono ?_
    rintro e w2 ⟨rfl, hb⟩
    have HB := Lib.hid hb
    clear hb
    go_upto_region 4 with (go_at_call 8; refine (HNm.out _).mono ?_; rintro e w3 ⟨A, rfl, hA, hown, hb⟩; have HO := Lib.hid hown; have HB3 := Lib.hid (hbelow_two HB.out hb); clear hown hb)
    go_upto_region 5 with (go_at_call 9; refine (HR.out _).mono ?_; rintro e w4 ⟨v, rfl, hown, hb⟩; have HV := Lib.hid (howns_zero hown); have HB4 := Lib.hid (hbelow_two HB3.out hb); have HO4 := Lib.hid (hkeep (howns_zero HO.out) hb); clear hown hb)
    have hlen : ∃ o c, v = .slice o L.length c := by
      rcases HV.out.2 with ⟨hv, h0⟩ | ⟨g, cap, cur, hv, _⟩
      · exact ⟨none, 0, by rw [hv, h0]⟩
      · exact ⟨_, cap, hv⟩
    obtain ⟨o, c, rfl⟩ := hlen
    have HS := Lib.hid (show LawNRel L A (.slice o L.length c) w w4 (.int .i64 0) w4 from ⟨0, Nat.zero_le _, rfl, HB4, HO4, HV⟩)
    have dl : ((L.length : Int) != (L.length : Int)) = false := by simp
    rcases HT.out with ⟨hz, rfl, rfl⟩ | ⟨hp, e0, e1⟩
    · have z1 : s.data = #[] := Array.size_eq_zero_iff.1 hz
      have z2 : s.toList = [] := by rw [Go.Lib.toList_data, z1]
      have z3 : s.toList.isEmpty = true := by rw [z2]; rfl
      clear z1
      have HZ := Lib.hid hz
      clear hz
      go_upto_region 7 with fail
      go_wp2_with fail
      go_loopw [7] (LawNRel L A (.slice o L.length c) w w4) (fun v _ => L.length - (intOf v).toNat)
      case atStart => exact HS.out
      case round =>
        obtain ⟨k, hk, rfl, HBr, H1, H2⟩ := hrel
        by_cases hlt : k < L.length
        · have e1 : decide ((k : Int) < (L.length : Int)) = true := decide_eq_true (by omega)
          obtain ⟨x, hx⟩ : ∃ x, L[k]? = some x := ⟨_, List.getElem?_eq_getElem hlt⟩
          have c1 : wr.cell? ⟨A, k, none⟩ = some (.string x) := hcell H1.out (strs_at hx)
          obtain ⟨g, cap, e3, _, _⟩ := hsome H2.out (by omega)
          simp only [Value.slice.injEq] at e3
          obtain ⟨rfl, _, rfl⟩ := e3
          have c2 : wr.cell? ⟨g, k, none⟩ = some (.string x) := hcell H2.out (strs_at hx)
          clear hx
          go_wp2_with fail
          go_quiet (fail)
          go_wp2_with fail
          go_roundw
          case rel => exact ⟨k + 1, by omega, by simp, Lib.hid (hbelow_drewN HBr.out), H1, H2⟩
          case measure => simp [intOf]; omega
        · have e1 : decide ((k : Int) < (L.length : Int)) = false := decide_eq_false (by omega)
          go_wp2_with fail
          go_ret
          exact ⟨rfl, HBr.out⟩
    · have HE0 := Lib.hid e0
      have HE1 := Lib.hid e1
      have z3 : ¬ s.toList = [] := by
        rw [Go.Lib.toList_data]
        intro e
        have : s.data.toList.length = 0 := by rw [e]; rfl
        have h2 : s.data.toList.length = s.size := by simp
        omega
      have z2 : s.toList.isEmpty = false := by simpa using z3
      clear e0 e1
      have d0 := HE0.out.symm
      have d1 := HE1.out.symm
      have b00 : (b0 != b0) = false := by simp
      have b11 : (b1 != b1) = false := by simp
      go_upto_region 7 with fail
      go_wp2_with fail
      go_loopw [7] (LawNRel L A (.slice o L.length c) w w4) (fun v _ => L.length - (intOf v).toNat)
      case atStart => exact HS.out
      case round =>
        obtain ⟨k, hk, rfl, HBr, H1, H2⟩ := hrel
        by_cases hlt : k < L.length
        · have e1 : decide ((k : Int) < (L.length : Int)) = true := decide_eq_true (by omega)
          obtain ⟨x, hx⟩ : ∃ x, L[k]? = some x := ⟨_, List.getElem?_eq_getElem hlt⟩
          have c1 : wr.cell? ⟨A, k, none⟩ = some (.string x) := hcell H1.out (strs_at hx)
          obtain ⟨g, cap, e3, _, _⟩ := hsome H2.out (by omega)
          simp only [Value.slice.injEq] at e3
          obtain ⟨rfl, _, rfl⟩ := e3
          have c2 : wr.cell? ⟨g, k, none⟩ = some (.string x) := hcell H2.out (strs_at hx)
          clear hx
          go_wp2_with fail
          go_quiet (fail)
          go_wp2_with fail
          go_roundw
          case rel => exact ⟨k + 1, by omega, by simp, Lib.hid (hbelow_drewN HBr.out), H1, H2⟩
          case measure => simp [intOf]; omega
        · have e1 : decide ((k : Int) < (L.length : Int)) = false := decide_eq_false (by omega)
          go_wp2_with fail
          go_ret
          exact ⟨rfl, HBr.out⟩
end Go.Proofs.Ytemjlamgnkjejaa

namespace Go.Proofs.Ytemjlamgnkjejaa.pnames
open Go.ChangeShapes Go.WideShapes Go.ChangeAt Go.RowKit
open Go.ChangeMaps (open_string shut_string)

theorem own : ownKnob Try.prog.godebug = none := by kernel_rfl

set_option maxRecDepth 100000 in
theorem lifted (os : Os) (started : os.Started) (H : Type) (enc : TypeId × Value → H) :
    ReturnsInHanded {} Try.checked os 3 .any (Rows.pathNamesSpec.pre6 enc Try.prog Try.f3 Rows.pathNamesRow.domain false) (Rows.pathNamesSpec.post enc Try.prog Try.f3 false true false false) := by
  refine returnsInHanded_of_change (C := Try.checked) own started (by kernel_rfl) Try.func3
    (ChangeSpec.witness6 (enc := enc) (C := Try.checked) false ⟨#[], #[.string ⟨#[]⟩], []⟩ 8 (by kernel_rfl) (by kernel_rfl) (by kernel_rfl) (by kernel_rfl)) ?_
  intro W base args ds gs before hval0 hW hcnd _
  have hval : ∀ (j : Nat) t v, Try.f3.params[j]? = some t → args[j]? = some v → Value.okWide Try.prog W .any base t v := hval0
  have hW' := hW
  obtain ⟨p, q, hA0, hV, rfl, hfz, hnd⟩ := hW
  have hA : DataW.TrodAll enc Try.prog W 0 (fun _ => true) true Try.f3.params.toList args.toList ds p := hA0
  rw [Try.params3] at hA hval
  obtain ⟨v0, vs0, d0, ds0, p0, q0, hargs, rfl, rfl, h0, r0⟩ := trodAll_cons hA
  obtain ⟨rfl, rfl, rfl⟩ := trodAll_nil r0
  obtain rfl : args = #[v0] := by cases args; simp_all
  obtain ⟨rfl, rfl⟩ := trodVars_none hV
  obtain ⟨a0, rfl, rfl, rfl, w0⟩ := open_string Try.underlying9 (hval 0 9 v0 rfl rfl) h0
  have z0 : a0.size ≤ 9223372036854775807 := by have := w0; unfold maxLen at this; omega
  clear hA0 hval0
  refine (pnames_any a0 W z0).mono fun e W' ⟨he, bel⟩ => ?_
  subst he
  exact ⟨_, rfl, _, _, _, [], _, [], hW', trodAll_mk1 (shut_bool Try.underlying4 _), (trodAll_mk1 (shut_string Try.underlying9 w0)), rfl, bel.frame _, fun h => by cases h⟩

theorem said : Rows.PathNamesSaid :=
  OpenClaim.holds_of_wide 3 Try.f3 rfl rfl rfl rfl rfl rfl rfl ⟨rfl, rfl, rfl, rfl, rfl⟩ rfl rfl rfl rfl rfl (by kernel_rfl) Try.func3 (by kernel_rfl)
    (of_decide_eq_true (by kernel_rfl)) (by unfold Func.isWrapper; first | (rw [if_pos (by decide +kernel)]; kernel_rfl) | (rw [if_neg (by decide +kernel)]; exact ⟨rfl, rfl⟩))
    (fun os started H enc _ => lifted os started H enc)
end Go.Proofs.Ytemjlamgnkjejaa.pnames
