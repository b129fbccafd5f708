/-
  What the reference's Sort returns: the places, sorted. Conditions: the keys lie in memory, at most 1000 of them.
-/
import Derived.Test.YteeddednonmglaaDoorOAhead
set_option linter.unusedVariables false
namespace Go.Proofs.YteeddednonmglaaDoor
open Go.RowKit

theorem infoInt : (Tryd.prog.info? 3).map (fun i => (i.zero, i.size, i.bytes)) = some (some (.int .i64 0), 1, 8) := by kernel_rfl
def ints (V : List Int) : List Value := V.map (Value.int .i64)
/-- Where i places are put. -/
def OutRel (n : Nat) (A : Nat → Nat → Bool) (w : World) (x9 : Value) (v10 : Value) (wr : World) : Prop :=
  ∃ (i : Nat) (V : List Int), v10 = .int .i64 (i : Int) ∧ i ≤ n ∧ V.length = n ∧ Hid (∀ j, j < i → V[rank n A j]? = some (j : Int)) ∧ Hid (wr.ownsRow w.heap.size 3 1 x9 n (ints V)) ∧ Hid (Below w.heap.size w wr)
/-- Where k keys are looked at. -/
def CntRel (n : Nat) (A : Nat → Nat → Bool) (i : Nat) (w0 : World) (v11 v12 : Value) (wr : World) : Prop :=
  ∃ k : Nat, v12 = .int .i64 (k : Int) ∧ k ≤ n ∧ v11 = .int .i64 (((List.range k).countP fun j => A j i : Nat) : Int) ∧ Hid (Below w0.heap.size w0 wr)
theorem cnt_step (A : Nat → Nat → Bool) (i k : Nat) : (List.range (k + 1)).countP (fun j => A j i) = (List.range k).countP (fun j => A j i) + (if A k i = true then 1 else 0) := by
  rw [List.range_succ, List.countP_append, List.countP_singleton]
theorem cnt_le (A : Nat → Nat → Bool) (i k : Nat) : (List.range k).countP (fun j => A j i) ≤ k := by
  have := List.countP_le_length (p := fun j => A j i) (l := List.range k)
  rwa [List.length_range] at this
theorem rank_at {n : Nat} {A : Nat → Nat → Bool} (hA : Strict n A) {p : List Nat} (h : SortP n A p) {i : Nat} (hi : i < n) : rank n A i < n ∧ p[rank n A i]? = some i := by
  have hm : i ∈ p := h.1.mem_iff.2 (List.mem_range.2 hi)
  obtain ⟨r, hr⟩ := List.mem_iff_getElem?.1 hm
  have e := h.rank hA hr
  rw [e]
  exact ⟨by have := (List.getElem?_eq_some_iff.1 hr).1; rw [h.length] at this; exact this, hr⟩
theorem rank_inj {n : Nat} {A : Nat → Nat → Bool} (hA : Strict n A) {p : List Nat} (h : SortP n A p) {i j : Nat} (hi : i < n) (hj : j < n) (e : rank n A i = rank n A j) : i = j := by
  have h1 := (rank_at hA h hi).2
  have h2 := (rank_at hA h hj).2
  rw [e, h2] at h1
  exact (Option.some.inj h1).symm
theorem out_end {n : Nat} {A : Nat → Nat → Bool} (hA : Strict n A) {p : List Nat} (h : SortP n A p) {V : List Int} (hV : V.length = n) (hr : ∀ j, j < n → V[rank n A j]? = some (j : Int)) : V = p.map fun i : Nat => (i : Int) := by
  apply List.ext_getElem?
  intro r
  rw [List.getElem?_map]
  rcases Nat.lt_or_ge r n with q | q
  · obtain ⟨i, hi⟩ : ∃ i, p[r]? = some i := ⟨_, List.getElem?_eq_getElem (by rw [h.length]; exact q)⟩
    have hin : i < n := h.lt (List.mem_of_getElem? hi)
    have e := h.rank hA hi
    have := hr i hin
    rw [e] at this
    rw [this, hi]
    rfl
  · rw [List.getElem?_eq_none (by omega), List.getElem?_eq_none (by rw [h.length]; omega)]
    rfl

set_option maxRecDepth 100000 in
set_option maxHeartbeats 8000000 in
theorem rsort_any (o : Int) (rev dirs : Bool) (l : List Ky) (a : Option Addr) (cap : Nat) (p : List Nat) (w : World) (H : IsKeys w a l) (hl : l.length ≤ 1000) (hz : ∀ c ∈ l, c.name.size ≤ 60000) (hp : Sorted (soC o rev dirs) l p) :
    Calls Tryd.prog 17 #[.int .i64 o, .bool rev, .bool dirs, .slice a l.length cap] w fun e w' => ∃ v, e = .returned v ∧ w'.ownsRow w.heap.size 3 1 v l.length (ints (p.map fun i : Nat => (i : Int))) ∧ Below w.heap.size w w' := by
  obtain ⟨i0, hi0, hz0, hz1, hz2⟩ := info_parts infoInt
  have HA := Lib.hid (fun W (hb : Below w.heap.size w W) i k (hi : i < l.length) (hk : k < l.length) => rahead_any o rev dirs l a cap i k W (H.keep hb) (by omega) hz hi hk)
  have hS := ahead_strict (soC_tot o rev dirs) l l.length
  have HS := Lib.hid hS
  have HP := Lib.hid (show SortP l.length (aheadL (soC o rev dirs) l) p from hp)
  have HI := Lib.hid (fun i hi => hS.irr i hi)
  generalize aheadL (soC o rev dirs) l = A at HA HS HP HI
  clear H hz hp hS
  obtain ⟨n, hn⟩ : ∃ n, l.length = n := ⟨_, rfl⟩
  rw [hn] at HA HS HP HI hl ⊢
  clear hn
  go_enter Tryd.func17, Tryd.ntmps17
  go_wp2_with (at_make; go_loud (refine wpList_make_full _ rfl (.tmp 14) (.tmp 14) 27 rfl w.heap.size 3 i0 (.int .i64 0) 1 Tryd.underlying27 hi0 hz0 hz1 .i64 .i64 _ _ n rfl rfl rfl rfl (by rw [hz2]; omega) (by unfold maxLen; omega) (Nat.le_refl _) ?_; intro w1 hown hgrow))
  have hcells : (madeCells (Value.int .i64 0).cells (n * 1)).toList = ints (List.replicate n 0) := by
    have : (Value.int .i64 0).cells = #[.int .i64 0] := rfl
    rw [this, toList_madeCells_one, Nat.mul_one]
    unfold ints
    rw [List.map_replicate]
  rw [hcells] at hown
  have HO1 := Lib.hid hown
  have HB1 := Lib.hid ((Below.refl w.heap.size w).grown hgrow (Nat.le_refl _) (fun j hj => by cases hj))
  clear hown hgrow hcells
  go_loopw [10] (OutRel n A w (.slice (some ⟨w.heap.size, 0, none⟩) n n)) (fun v _ => n - (intOf v).toNat)
  case atStart => exact ⟨0, List.replicate n 0, rfl, Nat.zero_le _, List.length_replicate, Lib.hid (fun j hj => by omega), HO1, HB1⟩
  case round =>
    obtain ⟨i, V, rfl, hin, hVl, HV, HO, HB⟩ := hrel
    by_cases hi : i < n
    · have e1 : decide ((i : Int) < (n : Int)) = true := decide_eq_true (by omega)
      go_wp2_with fail
      go_loopw [11, 12] (CntRel n A i wr) (fun _ v _ => n - (intOf v).toNat)
      case atStart => exact ⟨0, rfl, Nat.zero_le _, rfl, Lib.hid (Below.refl _ _)⟩
      case round =>
        obtain ⟨k, rfl, hkn, rfl, HBk⟩ := hrel
        have hcl := cnt_le A i k
        have HCs := Lib.hid (cnt_step A i k)
        obtain ⟨c, hc⟩ : ∃ c, (List.range k).countP (fun j => A j i) = c := ⟨_, rfl⟩
        have HCc := Lib.hid hc
        rw [hc] at hcl HCs ⊢
        clear hc
        by_cases hk : k < n
        · have e2 : decide ((k : Int) < (n : Int)) = true := decide_eq_true (by omega)
          have HBw := Lib.hid (below_two HB.out HBk.out)
          by_cases hki : k = i
          · have HCn := Lib.hid (show (List.range (k + 1)).countP (fun j => A j i) = c from by
              rw [HCs.out, hki, HI.out i hi]
              rfl)
            subst hki
            have d1 : ((k : Int) != (k : Int)) = false := by simp
            go_wp2_with fail
            go_roundw
            case rel => exact ⟨k + 1, by simp, by omega, by rw [HCn.out], HBk⟩
            case measure => simp [intOf]; omega
          · have d1 : ((k : Int) != (i : Int)) = true := bne_iff_ne.2 (by omega)
            have HAk := Lib.hid (HA.out _ HBw.out k i hk hi)
            cases hA : A k i with
            | false =>
              rw [hA] at HAk HCs
              have HCn := Lib.hid (show (List.range (k + 1)).countP (fun j => A j i) = c from by rw [HCs.out]; rfl)
              clear hA
              go_wp2_with (go_at_call 31; refine HAk.out.mono ?_; rintro e w5 ⟨rfl, hb⟩; have HB5 := Lib.hid (below_two HBk.out hb); clear hb)
              go_roundw
              case rel => exact ⟨k + 1, by simp, by omega, by rw [HCn.out], HB5⟩
              case measure => simp [intOf]; omega
            | true =>
              rw [hA] at HAk HCs
              have HCn := Lib.hid (show (List.range (k + 1)).countP (fun j => A j i) = c + 1 from by rw [HCs.out]; rfl)
              clear hA
              go_wp2_with (go_at_call 31; refine HAk.out.mono ?_; rintro e w5 ⟨rfl, hb⟩; have HB5 := Lib.hid (below_two HBk.out hb); clear hb)
              go_roundw
              case rel => exact ⟨k + 1, by simp, by omega, by rw [HCn.out]; simp, HB5⟩
              case measure => simp [intOf]; omega
        · have e2 : decide ((k : Int) < (n : Int)) = false := decide_eq_false (by omega)
          have hkn2 : k = n := by omega
          have HRk := Lib.hid (show rank n A i = c from by rw [← HCc.out, hkn2]; rfl)
          have hcn : c < n := by rw [← HRk.out]; exact (rank_at HS.out HP.out hi).1
          have HO5 := Lib.hid (owns_to HO.out HBk.out)
          obtain ⟨x, hx⟩ : ∃ x, V[c]? = some x := ⟨_, List.getElem?_eq_getElem (by omega)⟩
          have a0 : wr.cell? ⟨w.heap.size, c, none⟩ = some (.int .i64 x) := owns_cell HO5.out (by unfold ints; rw [List.getElem?_map, hx]; rfl)
          have a1 : wr.frozen? ⟨w.heap.size, c, none⟩ = false := owns_frozen HO5.out c
          have HBw := Lib.hid (below_two HB.out HBk.out)
          have HO6 := Lib.hid (show (wr.setCell ⟨w.heap.size, c, none⟩ (.int .i64 (i : Int))).ownsRow w.heap.size 3 1 (.slice (some ⟨w.heap.size, 0, none⟩) n n) n (ints (V.set c (i : Int))) from by
            have := owns_setCell HO5.out (j := c) (by unfold ints; rw [List.length_map, hVl]; exact hcn) (.int .i64 (i : Int))
            unfold ints at this ⊢
            rw [List.map_set]
            exact this)
          have HB6 := Lib.hid (HBw.out.setCell (p := ⟨w.heap.size, c, none⟩) (Nat.le_refl _) (.int .i64 (i : Int)))
          have HV6 := Lib.hid (show ∀ j, j < i + 1 → (V.set c (i : Int))[rank n A j]? = some (j : Int) from fun j hj => by
            by_cases q : j = i
            · subst q
              rw [HRk.out, List.getElem?_set_self (by omega)]
            · have hne : c ≠ rank n A j := fun z => q (rank_inj HS.out HP.out (by omega) hi (by rw [HRk.out, z]))
              rw [List.getElem?_set_ne hne]
              exact HV.out j (by omega))
          clear hx hkn2
          go_wp2_with fail
          go_roundw
          case rel => exact ⟨i + 1, V.set c (i : Int), by simp, by omega, by rw [List.length_set]; exact hVl, HV6, HO6, HB6⟩
          case measure => simp [intOf]; omega
    · have e1 : decide ((i : Int) < (n : Int)) = false := decide_eq_false (by omega)
      have HE := Lib.hid (out_end HS.out HP.out hVl (fun j hj => HV.out j (by omega)))
      rw [HE.out] at HO
      clear HE
      go_wp2_with fail
      go_ret
      exact ⟨_, rfl, HO.out, HB.out⟩
end Go.Proofs.YteeddednonmglaaDoor
