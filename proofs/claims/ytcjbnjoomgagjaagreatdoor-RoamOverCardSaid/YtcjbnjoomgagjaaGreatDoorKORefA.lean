/-
  What walks of later layers lean on: rows that a call has made, as they lie in memory. Conditions: each fact's own.
-/
import Derived.Test.YtcjbnjoomgagjaaGreatDoorRows
import Derived.WalkKit
import Derived.WalkSpells
import Derived.WalkLawsBesides
import Derived.OwnWalk
import Derived.Lib.Hide
import Derived.Lib.OthersKept
import Derived.Laws.AppendOwn
import Derived.Deep.QuietTactic
import Derived.BigQuiet
import Derived.Deep.CutRange
import Derived.Deep.MidRow
import Derived.Test.YtcjbnjoomgagjaaGreatDoorKGTree
import Derived.Deep.RegionHeld3
set_option linter.unusedVariables false
namespace Go.Proofs.YtcjbnjoomgagjaaGreatDoor.B
open Go.RowKit
theorem ret_int {k : IntKind} {a b : Int} (h : a = b) : Ending.returned (.int k a) = .returned (.int k b) := by rw [h]
theorem ret_bool {a b : Bool} (h : a = b) : Ending.returned (.bool a) = .returned (.bool b) := by rw [h]
theorem below_two {w a b : World} (h : Below w.heap.size w a) (k : Below a.heap.size a b) : Below w.heap.size w b := h.trans (k.mono h.size)
theorem below_drewNb {B n : Nat} {w w' : World} (hb : Below B w w') : Below B w (w'.drewN n) := ⟨hb.os, hb.tape, hb.output, hb.size, hb.block⟩
theorem heap_lt {w : World} {k : Nat} {o : Obj} (h : w.heap[k]? = some o) : k < w.heap.size := by
  apply Classical.byContradiction
  intro hn
  rw [Array.getElem?_eq_none (by omega)] at h
  cases h
theorem owns_setCell {w : World} {base : Nat} {e : TypeId} {size g n cap : Nat} {xs : List Value} (h : w.ownsRow base e size (.slice (some ⟨g, 0, none⟩) n cap) n xs) {j : Nat} (hj : j < xs.length) (u : Value) :
    (w.setCell ⟨g, j, none⟩ u).ownsRow base e size (.slice (some ⟨g, 0, none⟩) n cap) n (xs.set j u) := by
  obtain ⟨hl, h⟩ := h
  refine ⟨by rw [List.length_set]; exact hl, ?_⟩
  rcases h with ⟨h, _⟩ | ⟨g', cap', cur, hv, hb, hg, hnc, hcm, hcs, ht⟩
  · cases h
  · simp only [Value.slice.injEq, Option.some.injEq, Addr.mk.injEq] at hv
    obtain ⟨⟨rfl, _, _⟩, _, rfl⟩ := hv
    refine .inr ⟨g, cap, cur.setIfInBounds j u, rfl, hb, heap_setCell_same w g j cur e u hg, hnc, hcm, by rw [Array.size_setIfInBounds]; exact hcs, ?_⟩
    rw [Array.toList_setIfInBounds, List.take_set, ht]
theorem owns_frozen {w : World} {base : Nat} {e : TypeId} {size g n cap : Nat} {xs : List Value} (h : w.ownsRow base e size (.slice (some ⟨g, 0, none⟩) n cap) n xs) (j : Nat) : w.frozen? ⟨g, j, none⟩ = false := by
  rcases h.2 with ⟨h, _⟩ | ⟨g', cap', cur, hv, hb, hg, _⟩
  · cases h
  · simp only [Value.slice.injEq, Option.some.injEq, Addr.mk.injEq] at hv
    obtain ⟨⟨rfl, _, _⟩, _, _⟩ := hv
    exact frozen_of_row w g j cur e hg
theorem owns_cell {w : World} {base : Nat} {e : TypeId} {size g n cap : Nat} {xs : List Value} (h : w.ownsRow base e size (.slice (some ⟨g, 0, none⟩) n cap) n xs) {j : Nat} {u : Value} (hu : xs[j]? = some u) : w.cell? ⟨g, j, none⟩ = some u := by
  have := h.cells (g := g) rfl j u hu
  have hadd : (⟨g, 0, none⟩ : Addr).add j = ⟨g, j, none⟩ := by unfold Addr.add; split <;> simp_all
  rwa [hadd] at this
theorem owns_some {w : World} {base : Nat} {e : TypeId} {size n : Nat} {v : Value} {xs : List Value} (h : w.ownsRow base e size v n xs) (hn : 0 < n) : ∃ g cap, v = .slice (some ⟨g, 0, none⟩) n cap ∧ n ≤ cap ∧ cap ≤ maxLen := by
  rcases h.2 with ⟨_, h⟩ | ⟨g, cap, cur, hv, hb, hg, hnc, hcm, _⟩
  · omega
  · exact ⟨g, cap, hv, hnc, hcm⟩
theorem owns_at {w w' : World} {base : Nat} {e : TypeId} {size n : Nat} {v : Value} {xs : List Value} (h : w.ownsRow base e size v n xs) (hk : ∀ k, v.ownBlock = some k → w'.heap[k]? = w.heap[k]?) : w'.ownsRow base e size v n xs := by
  refine ⟨h.1, ?_⟩
  rcases h.2 with hn | ⟨g, cap, cur, rfl, hb, hgg, rest⟩
  · exact .inl hn
  · exact .inr ⟨g, cap, cur, rfl, hb, (hk g rfl).trans hgg, rest⟩
theorem owns_type {w : World} {base : Nat} {e : TypeId} {size n : Nat} {v : Value} {xs : List Value} (h : w.ownsRow base e size v n xs) {k : Nat} (hk : v.ownBlock = some k) : ∃ cur, w.heap[k]? = some (.cells cur e (0, 0)) := by
  rcases h.2 with ⟨rfl, _⟩ | ⟨g, cap, cur, rfl, hb, hgg, rest⟩
  · cases hk
  · cases hk
    exact ⟨cur, hgg⟩
theorem owns_keep {w w' : World} {e : TypeId} {size n : Nat} {v : Value} {xs : List Value} (h : w.ownsRow 0 e size v n xs) (hb : Below w.heap.size w w') : w'.ownsRow 0 e size v n xs := owns_at h fun k hk => hb.block k (h.lt k hk).2
theorem owns_to {w w' : World} {b : Nat} {e : TypeId} {size n : Nat} {v : Value} {xs : List Value} (h : w.ownsRow b e size v n xs) (hb : Below w.heap.size w w') : w'.ownsRow b e size v n xs := owns_at h fun k hk => hb.block k (h.lt k hk).2
theorem owns_form {w : World} {base : Nat} {e : TypeId} {size n : Nat} {v : Value} {xs : List Value} (h : w.ownsRow base e size v n xs) : ∃ ao cap, v = .slice ao n cap := by
  rcases h.2 with ⟨rfl, rfl⟩ | ⟨g, cap, _, rfl, _⟩
  · exact ⟨_, _, rfl⟩
  · exact ⟨_, _, rfl⟩
theorem size_list (s : ByteArray) : s.data.toList.length = s.size := by simp
theorem list_at {s : ByteArray} {k : Nat} (h : k < s.size) : s.data.toList[k]? = some (s[k]'h) := by
  rw [List.getElem?_eq_getElem (by simpa using h)]
  rfl
end Go.Proofs.YtcjbnjoomgagjaaGreatDoor.B
namespace Go.Proofs.YtcjbnjoomgagjaaGreatDoor.O
open Go.Proofs.YtcjbnjoomgagjaaGreatDoor.B
end Go.Proofs.YtcjbnjoomgagjaaGreatDoor.O
namespace Go.Proofs.YtcjbnjoomgagjaaGreatDoor.O
open Go.Proofs.YtcjbnjoomgagjaaGreatDoor.B
open Go.RowKit
theorem drop_at {α : Type} {l : List α} {k : Nat} {b : α} (h : l[k]? = some b) : l.drop k = b :: l.drop (k + 1) := by
  obtain ⟨hk, rfl⟩ := List.getElem?_eq_some_iff.1 h
  exact (List.drop_eq_getElem_cons hk)
theorem less_step {A B : List UInt8} {k : Nat} {x y : UInt8} (hx : A[k]? = some x) (hy : B[k]? = some y) : lessL (A.drop k) (B.drop k) = if x.toNat < y.toNat then -1 else if y.toNat < x.toNat then 1 else lessL (A.drop (k + 1)) (B.drop (k + 1)) := by
  have hc : cmpB x y = if x.toNat < y.toNat then -1 else if y.toNat < x.toNat then 1 else 0 := by
    unfold cmpB cmpI
    simp only [Int.ofNat_lt]
  rw [drop_at hx, drop_at hy]
  show (if cmpB x y = 0 then _ else _) = _
  rw [hc]
  by_cases h1 : x.toNat < y.toNat
  · rw [if_pos h1, if_pos h1, if_neg (by decide)]
  · rw [if_neg h1, if_neg h1]
    by_cases h2 : y.toNat < x.toNat
    · rw [if_pos h2, if_pos h2, if_neg (by decide)]
    · rw [if_neg h2, if_neg h2, if_pos rfl]
      rfl
theorem less_end {A B : List UInt8} {k : Nat} (h : A.length ≤ k ∨ B.length ≤ k) (ha : k ≤ A.length) (hb : k ≤ B.length) : lessL (A.drop k) (B.drop k) = if A.length < B.length then -1 else if B.length < A.length then 1 else 0 := by
  rcases h with h | h
  · rw [List.drop_of_length_le h]
    by_cases q : A.length < B.length
    · rw [if_pos q]
      obtain ⟨y, hy⟩ : ∃ y, B[k]? = some y := ⟨_, List.getElem?_eq_getElem (by omega)⟩
      rw [drop_at hy]
      rfl
    · rw [if_neg q, if_neg (by omega), List.drop_of_length_le (by omega)]
      rfl
  · rw [List.drop_of_length_le h]
    by_cases q : B.length < A.length
    · rw [if_neg (by omega), if_pos q]
      obtain ⟨y, hy⟩ : ∃ y, A[k]? = some y := ⟨_, List.getElem?_eq_getElem (by omega)⟩
      rw [drop_at hy]
      rfl
    · rw [if_neg (by omega), if_neg q, List.drop_of_length_le (by omega)]
      rfl
def LessRel (a b : ByteArray) (w : World) (v : Value) (wr : World) : Prop :=
  ∃ k : Nat, k ≤ a.size ∧ k ≤ b.size ∧ v = .int .i64 (k : Int) ∧ Hid (lessL a.data.toList b.data.toList = lessL (a.data.toList.drop k) (b.data.toList.drop k)) ∧ Hid (∃ m, wr = w.drewN m)
set_option maxRecDepth 100000 in
set_option maxHeartbeats 4000000 in
theorem rless_any (a b : ByteArray) (w : World) (ha : a.size ≤ 1000000) (hb : b.size ≤ 1000000) :
    Calls Tryz.prog 37 #[.string a, .string b] w fun e w' => e = .returned (.int .i64 (lessL a.data.toList b.data.toList)) ∧ ∃ m, w' = w.drewN m := by
  go_enter Tryz.func37, Tryz.ntmps37
  go_wp2
  go_loopw [5] (LessRel a b w) (fun v _ => a.size - (intOf v).toNat)
  case atStart => exact ⟨0, Nat.zero_le _, Nat.zero_le _, rfl, Lib.hid rfl, Lib.hid ⟨0, rfl⟩⟩
  case round =>
    obtain ⟨k, ka, kb, rfl, HL, HB⟩ := hrel
    by_cases h1 : k < a.size
    · have e1 : decide ((k : Int) < (a.size : Int)) = true := decide_eq_true (by omega)
      by_cases h2 : k < b.size
      · have e2 : decide ((k : Int) < (b.size : Int)) = true := decide_eq_true (by omega)
        have HS := Lib.hid (HL.out.trans (less_step (list_at h1) (list_at h2)))
        go_upto_region 4 with fail
        obtain ⟨x, hx⟩ : ∃ x, a[k]'h1 = x := ⟨_, rfl⟩
        obtain ⟨y, hy⟩ : ∃ y, b[k]'h2 = y := ⟨_, rfl⟩
        rw [hx, hy] at HS
        go_quiet (fail)
        have HBd := Lib.hid (show ∃ m, wr.drewN nq = w.drewN m from HB.out.elim fun m h => ⟨m + nq, by rw [h, World.drewN_drewN]⟩)
        generalize wr.drewN nq = w2 at HBd ⊢
        clear HL HB
        by_cases q1 : x.toNat < y.toNat
        · rw [if_pos q1] at HS
          go_wp2_with fail
          go_ret
          exact ⟨ret_int HS.out.symm, HBd.out⟩
        · rw [if_neg q1] at HS
          go_upto_region 6 with fail
          go_quiet (fail)
          have HBe := Lib.hid (show ∃ m, w2.drewN nq = w.drewN m from HBd.out.elim fun m h => ⟨m + nq, by rw [h, World.drewN_drewN]⟩)
          generalize w2.drewN nq = w3 at HBe ⊢
          by_cases q2 : y.toNat < x.toNat
          · rw [if_pos q2] at HS
            go_wp2_with fail
            go_ret
            exact ⟨ret_int HS.out.symm, HBe.out⟩
          · rw [if_neg q2] at HS
            go_wp2_with fail
            go_roundw
            case rel => exact ⟨k + 1, by omega, by omega, by simp, HS, HBe⟩
            case measure => simp [intOf]; omega
      · have e2 : decide ((k : Int) < (b.size : Int)) = false := decide_eq_false (by omega)
        have HE := Lib.hid (HL.out.trans (less_end (.inr (by rw [size_list]; omega)) (by rw [size_list]; omega) (by rw [size_list]; omega)))
        rw [size_list, size_list] at HE
        by_cases q1 : a.size < b.size
        · rw [if_pos q1] at HE
          go_wp2_with fail
          go_ret
          exact ⟨ret_int HE.out.symm, HB.out⟩
        · rw [if_neg q1] at HE
          by_cases q2 : b.size < a.size
          · rw [if_pos q2] at HE
            go_wp2_with fail
            go_ret
            exact ⟨ret_int HE.out.symm, HB.out⟩
          · rw [if_neg q2] at HE
            go_wp2_with fail
            go_ret
            exact ⟨ret_int HE.out.symm, HB.out⟩
    · have e1 : decide ((k : Int) < (a.size : Int)) = false := decide_eq_false (by omega)
      have HE := Lib.hid (HL.out.trans (less_end (.inl (by rw [size_list]; omega)) (by rw [size_list]; omega) (by rw [size_list]; omega)))
      rw [size_list, size_list] at HE
      by_cases q1 : a.size < b.size
      · rw [if_pos q1] at HE
        go_wp2_with fail
        go_ret
        exact ⟨ret_int HE.out.symm, HB.out⟩
      · rw [if_neg q1] at HE
        by_cases q2 : b.size < a.size
        · rw [if_pos q2] at HE
          go_wp2_with fail
          go_ret
          exact ⟨ret_int HE.out.symm, HB.out⟩
        · rw [if_neg q2] at HE
          go_wp2_with fail
          go_ret
          exact ⟨ret_int HE.out.symm, HB.out⟩
def mkB (l : List UInt8) : ByteArray := ⟨l.toArray⟩
theorem mkB_list (l : List UInt8) : (mkB l).data.toList = l := by unfold mkB; simp
theorem ext_tail (s : ByteArray) (k : Nat) : s.extract k s.size = mkB (s.data.toList.drop k) := by
  apply ByteArray.ext
  unfold mkB
  rw [ByteArray.data_extract]
  apply Array.ext'
  simp
  exact List.take_of_length_le (by simp)
end Go.Proofs.YtcjbnjoomgagjaaGreatDoor.O
namespace Go.Proofs.YtcjbnjoomgagjaaGreatDoor.O
open Go.Proofs.YtcjbnjoomgagjaaGreatDoor.B
open Go.RowKit
section
variable {P : Program} {ops : Array Oper} {Q : Exit → Act → World → Prop} {md : Region.Mode} {S : World → Prop} {z : Nat}
def Till (P : Program) (md : Region.Mode) (ops : Array Oper) (Q : Exit → Act → World → Prop) (S : World → Prop) (z : Nat) : Nat → Array Bool → Act → World → Prop
  | 0 => fun up a w => Region.ready md ops up = [] ∧ Q .normal a w
  | n + 1 => fun up a w => (Region.ready md ops up = [] → Q .normal a w) ∧ ∀ i, i ∈ Region.ready md ops up → wpOp P ops Q i (fun a' w' => (i ≠ z → S w') ∧ Till P md ops Q S z n (up.setIfInBounds i true) a' w') a w
theorem Till.any : ∀ {n : Nat} {up : Array Bool} {a : Act} {w : World}, Till P md ops Q S z n up a w → wpAny P md ops Q n up a w
  | 0, _, _, _, h => h
  | n + 1, _, _, _, h => ⟨h.1, fun i hi => wpOp_mono (fun _ _ q => Till.any q.2) (h.2 i hi)⟩
theorem Till.region {id : Nat} {a : Act} {w : World} (hm : P.follows .mixedOrders = true) (hS : S w.drew) (h : S w.drew → Till P .any ops Q S z ops.size (Array.replicate ops.size false) a w.drew) : (Code.region id ops true).wp P Q a w :=
  wp_region_any hm (Till.any (h hS))
def waitsB (md : Region.Mode) (ops : Array Oper) (z i : Nat) : Bool := match ops[z]? with
  | some o => o.after.any fun e => Region.binds md e && e.on == i
  | none => false
theorem waits_not {i j : Nat} {up : Array Bool} (hz : waitsB md ops z i = true) (hi : i ∈ Region.ready md ops up) (hj : j ∈ Region.ready md ops up) : j ≠ z := by
  rintro rfl
  obtain ⟨_, o, ho, hall⟩ := mem_ready.1 hj
  unfold waitsB at hz
  rw [ho] at hz
  obtain ⟨e, he, hb⟩ := Array.any_eq_true'.1 hz
  simp only [Bool.and_eq_true, beq_iff_eq] at hb
  have h1 := hall e he hb.1
  rw [hb.2] at h1
  have h0 := (mem_ready.1 hi).1
  rcases Nat.lt_or_ge i up.size with q | q
  · simp [q] at h0 h1
    rw [h0] at h1
    cases h1
  · simp [Array.getElem?_eq_none q] at h1
theorem Till.front {i : Nat} {oi : Oper} {v : Value} (hi : ops[i]? = some oi) (hsel : ∀ (j : Nat) (o : Oper) cs b, ops[j]? = some o → o.op ≠ .select cs b) (hQ : ∀ c a w, Q (.panic c) (a.put oi.dst v) w → Q (.panic c) a w) (hz : waitsB md ops z i = true) :
    ∀ (n : Nat) (up : Array Bool) (a : Act) (w : World), (∀ j oj, ops[j]? = some oj → j ≠ i → up.getD j true = false → (∀ e ∈ oj.after, Region.binds md e = true → e.on ≠ i) → oi.apart ops oj = true) → i ∈ Region.ready md ops up → YieldsIf P ops S oi v a → S w →
      Till P md ops Q S z n (up.setIfInBounds i true) (a.put oi.dst v) w → Till P md ops Q S z (n + 1) up a w := by
  have one : ∀ {K : Act → World → Prop} {a : Act} {w : World}, YieldsIf P ops S oi v a → S w → K (a.put oi.dst v) w → wpOp P ops Q i K a w := fun hy hS hK => hy.wpOp hi hS hK
  have none : ∀ {up : Array Bool} {C : Prop}, i ∈ Region.ready md ops up → Region.ready md ops up = [] → C := fun hr h => by rw [h] at hr; cases hr
  intro n
  induction n with
  | zero =>
    intro up a w _ hr hy hS T
    refine ⟨none hr, fun j hj => ?_⟩
    rcases Classical.em (j = i) with e | e
    · rw [e]; exact one hy hS ⟨fun _ => hS, T⟩
    · have m := ready_mono (i := i) hj e
      rw [T.1] at m
      cases m
  | succ n ih =>
    intro up a w hfree hr hy hS T
    refine ⟨none hr, fun j hj => ?_⟩
    rcases Classical.em (j = i) with e | e
    · rw [e]; exact one hy hS ⟨fun _ => hS, T⟩
    · have hjz : j ≠ z := waits_not hz hr hj
      obtain ⟨hup, oj, hoj, hall⟩ := mem_ready.1 hj
      have hun : ∀ d ∈ oj.after, Region.binds md d = true → d.on ≠ i := fun d hd hb q => by
        have h1 := hall d hd hb
        rw [q] at h1
        have h0 := (mem_ready.1 hr).1
        rcases Nat.lt_or_ge i up.size with g | g
        · simp [g] at h0 h1
          rw [h0] at h1
          cases h1
        · simp [Array.getElem?_eq_none g] at h1
      have step := wpOp_putIf hoj (hfree j oj hoj e hup hun) (fun cs b => hsel i oi cs b hi) (fun cs b => hsel j oj cs b hoj) hQ hy (T.2 j (ready_mono hj e))
      refine wpOp_mono (fun a' w' q => ⟨fun _ => q.2.1 hjz, ih _ a' w' (fun k ok hk hki hku hkn => hfree k ok hk hki ?_ hkn) (ready_mono hr (Ne.symm e)) q.1 (q.2.1 hjz) ?_⟩) step
      · rcases Classical.em (j = k) with g | g
        · rw [← g]; exact hup
        · rw [getD_set_ne true g] at hku; exact hku
      · rw [Array.setIfInBounds_comm _ _ e]
        exact q.2.2
theorem Till.take {i : Nat} {oi : Oper} {v : Value} {n : Nat} {up : Array Bool} {a : Act} {w : World} (hi : ops[i]? = some oi) (hs : Region.noSelect ops = true) (hf : Region.free md ops up i = true) (hr : (Region.ready md ops up).contains i = true) (hz : waitsB md ops z i = true)
    (hQ : ∀ c a w, Q (.panic c) (a.put oi.dst v) w → Q (.panic c) a w) (hy : YieldsIf P ops S oi v a) (hS : S w) (h : Till P md ops Q S z n (up.setIfInBounds i true) (a.put oi.dst v) w) : Till P md ops Q S z (n + 1) up a w :=
  Till.front hi (Region.noSelect_spec hs) hQ hz n up a w (Region.free_spec hi hf) (by simpa using hr) hy hS h
theorem Till.next {i : Nat} {o : Oper} {n : Nat} {up : Array Bool} {a : Act} {w : World} (hr : Region.ready md ops up = [i]) (ho : ops[i]? = some o)
    (h : ∀ K : Act → World → Prop, Shut (∀ a w, (i ≠ z → S w) → Till P md ops Q S z n (up.setIfInBounds i true) a w → K a w) → if Region.wanted o (yielded ops a.tmps) = true then Oper.wp P o a w K Q else K (a.put o.dst undef) w) : Till P md ops Q S z (n + 1) up a w := by
  refine ⟨fun e => absurd e (by rw [hr]; exact List.cons_ne_nil _ _), fun j hj => ?_⟩
  rw [hr] at hj
  obtain rfl := List.mem_singleton.1 hj
  exact wpOp_step ho fun K hK => h K (fun a w hS hT => hK a w ⟨hS, hT⟩)
theorem Till.done {n : Nat} {up : Array Bool} {a : Act} {w : World} (hr : Region.ready md ops up = []) (h : Q .normal a w) : Till P md ops Q S z n up a w := by
  match n with
  | 0 => exact And.intro hr h
  | n + 1 =>
    refine ⟨fun _ => h, fun i hi => ?_⟩
    rw [hr] at hi
    cases hi
theorem Till.two {i j : Nat} {o o' : Oper} {n : Nat} {up : Array Bool} {a : Act} {w : World} (hr : Region.ready md ops up = [i, j]) (ho : ops[i]? = some o) (ho' : ops[j]? = some o')
    (h : ∀ K : Act → World → Prop, Shut (∀ a w, (i ≠ z → S w) → Till P md ops Q S z n (up.setIfInBounds i true) a w → K a w) → if Region.wanted o (yielded ops a.tmps) = true then Oper.wp P o a w K Q else K (a.put o.dst undef) w)
    (h' : ∀ K : Act → World → Prop, Shut (∀ a w, (j ≠ z → S w) → Till P md ops Q S z n (up.setIfInBounds j true) a w → K a w) → if Region.wanted o' (yielded ops a.tmps) = true then Oper.wp P o' a w K Q else K (a.put o'.dst undef) w) : Till P md ops Q S z (n + 1) up a w := by
  refine ⟨fun e => absurd e (by rw [hr]; exact List.cons_ne_nil _ _), fun k hk => ?_⟩
  rw [hr] at hk
  have hk2 : k = i ∨ k = j := by simpa using hk
  rcases hk2 with q | q
  · rw [q]; exact wpOp_step ho fun K hK => h K (fun a w hS hT => hK a w ⟨hS, hT⟩)
  · rw [q]; exact wpOp_step ho' fun K hK => h' K (fun a w hS hT => hK a w ⟨hS, hT⟩)
theorem Till.frontA {i : Nat} {oi : Oper} {v : Value} (hi : ops[i]? = some oi) (hsel : ∀ (j : Nat) (o : Oper) cs b, ops[j]? = some o → o.op ≠ .select cs b) (hQ : ∀ c a w, Q (.panic c) (a.put oi.dst v) w → Q (.panic c) a w) (hz : ops[z]? = none) :
    ∀ (n : Nat) (up : Array Bool) (a : Act) (w : World), (∀ j oj, ops[j]? = some oj → j ≠ i → up.getD j true = false → (∀ e ∈ oj.after, Region.binds md e = true → e.on ≠ i) → oi.apart ops oj = true) → i ∈ Region.ready md ops up → YieldsIf P ops S oi v a → S w →
      Till P md ops Q S z n (up.setIfInBounds i true) (a.put oi.dst v) w → Till P md ops Q S z (n + 1) up a w := by
  have one : ∀ {K : Act → World → Prop} {a : Act} {w : World}, YieldsIf P ops S oi v a → S w → K (a.put oi.dst v) w → wpOp P ops Q i K a w := fun hy hS hK => hy.wpOp hi hS hK
  have none : ∀ {up : Array Bool} {C : Prop}, i ∈ Region.ready md ops up → Region.ready md ops up = [] → C := fun hr h => by rw [h] at hr; cases hr
  intro n
  induction n with
  | zero =>
    intro up a w _ hr hy hS T
    refine ⟨none hr, fun j hj => ?_⟩
    rcases Classical.em (j = i) with e | e
    · rw [e]; exact one hy hS ⟨fun _ => hS, T⟩
    · have m := ready_mono (i := i) hj e
      rw [T.1] at m
      cases m
  | succ n ih =>
    intro up a w hfree hr hy hS T
    refine ⟨none hr, fun j hj => ?_⟩
    rcases Classical.em (j = i) with e | e
    · rw [e]; exact one hy hS ⟨fun _ => hS, T⟩
    · obtain ⟨hup, oj, hoj, hall⟩ := mem_ready.1 hj
      have hjz : j ≠ z := fun q => by
        rw [q, hz] at hoj
        cases hoj
      have hun : ∀ d ∈ oj.after, Region.binds md d = true → d.on ≠ i := fun d hd hb q => by
        have h1 := hall d hd hb
        rw [q] at h1
        have h0 := (mem_ready.1 hr).1
        rcases Nat.lt_or_ge i up.size with g | g
        · simp [g] at h0 h1
          rw [h0] at h1
          cases h1
        · simp [Array.getElem?_eq_none g] at h1
      have step := wpOp_putIf hoj (hfree j oj hoj e hup hun) (fun cs b => hsel i oi cs b hi) (fun cs b => hsel j oj cs b hoj) hQ hy (T.2 j (ready_mono hj e))
      refine wpOp_mono (fun a' w' q => ⟨fun _ => q.2.1 hjz, ih _ a' w' (fun k ok hk hki hku hkn => hfree k ok hk hki ?_ hkn) (ready_mono hr (Ne.symm e)) q.1 (q.2.1 hjz) ?_⟩) step
      · rcases Classical.em (j = k) with g | g
        · rw [← g]; exact hup
        · rw [getD_set_ne true g] at hku; exact hku
      · rw [Array.setIfInBounds_comm _ _ e]
        exact q.2.2
theorem Till.takeA {i : Nat} {oi : Oper} {v : Value} {n : Nat} {up : Array Bool} {a : Act} {w : World} (hi : ops[i]? = some oi) (hs : Region.noSelect ops = true) (hf : Region.free md ops up i = true) (hr : (Region.ready md ops up).contains i = true) (hz : ops[z]? = none)
    (hQ : ∀ c a w, Q (.panic c) (a.put oi.dst v) w → Q (.panic c) a w) (hy : YieldsIf P ops S oi v a) (hS : S w) (h : Till P md ops Q S z n (up.setIfInBounds i true) (a.put oi.dst v) w) : Till P md ops Q S z (n + 1) up a w :=
  Till.frontA hi (Region.noSelect_spec hs) hQ hz n up a w (Region.free_spec hi hf) (by simpa using hr) hy hS h
end
end Go.Proofs.YtcjbnjoomgagjaaGreatDoor.O
