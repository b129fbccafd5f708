/-
  A region that draws its order, whose operation number z waits for others and may write what they read: what is said of the world (S) holds till z comes up, and no longer (stage 6's text, apart from file systems). Conditions: each law's own.
  What the program's Compare and isAhead return. Conditions: names of at most 60000 bytes.
-/
import Derived.Test.YtpikndeefiediaaGreatDoorKOBase
import Derived.Deep.RegionHeld3
import Derived.Test.YtpikndeefiediaaGreatDoorKOPr2
import Derived.Test.YtpikndeefiediaaGreatDoorKOAhead
set_option linter.unusedVariables false
namespace Go.Proofs.YtpikndeefiediaaGreatDoor.O
open List renaming setIfInBounds_toArray → lt, set_cons_zero → l0, set_cons_succ → ls
open Go.Proofs.YtpikndeefiediaaGreatDoor.B
open Go.RowKit

section
variable {P : Program} {ops : Array Oper} {Q : Exit → Act → World → Prop} {md : Region.Mode} {S : World → Prop} {z : Nat}

/-- In whatever order the rest comes up, all is well; S holds behind each operation but z. -/
def Till (P : Program) (md : Region.Mode) (ops : Array Oper) (Q : Exit → Act → World → Prop) (S : World → Prop) (z : Nat) : Nat → Array Bool → Act → World → Prop
  | 0 => fun up a w => Region.ready md ops up = [] ∧ Q .normal a w
  | n + 1 => fun up a w => (Region.ready md ops up = [] → Q .normal a w) ∧ ∀ i, i ∈ Region.ready md ops up → wpOp P ops Q i (fun a' w' => (i ≠ z → S w') ∧ Till P md ops Q S z n (up.setIfInBounds i true) a' w') a w
theorem Till.any : ∀ {n : Nat} {up : Array Bool} {a : Act} {w : World}, Till P md ops Q S z n up a w → wpAny P md ops Q n up a w
  | 0, _, _, _, h => h
  | n + 1, _, _, _, h => ⟨h.1, fun i hi => wpOp_mono (fun _ _ q => Till.any q.2) (h.2 i hi)⟩
theorem Till.region {id : Nat} {a : Act} {w : World} (hm : P.follows .mixedOrders = true) (hS : S w.drew) (h : S w.drew → Till P .any ops Q S z ops.size (Array.replicate ops.size false) a w.drew) : (Code.region id ops true).wp P Q a w :=
  wp_region_any hm (Till.any (h hS))
/-- Does z wait for i? -/
def waitsB (md : Region.Mode) (ops : Array Oper) (z i : Nat) : Bool := match ops[z]? with
  | some o => o.after.any fun e => Region.binds md e && e.on == i
  | none => false
theorem waits_not {i j : Nat} {up : Array Bool} (hz : waitsB md ops z i = true) (hi : i ∈ Region.ready md ops up) (hj : j ∈ Region.ready md ops up) : j ≠ z := by
  rintro rfl
  obtain ⟨_, o, ho, hall⟩ := mem_ready.1 hj
  unfold waitsB at hz
  rw [ho] at hz
  obtain ⟨e, he, hb⟩ := Array.any_eq_true'.1 hz
  simp only [Bool.and_eq_true, beq_iff_eq] at hb
  have h1 := hall e he hb.1
  rw [hb.2] at h1
  have h0 := (mem_ready.1 hi).1
  rcases Nat.lt_or_ge i up.size with q | q
  · simp [q] at h0 h1
    rw [h0] at h1
    cases h1
  · simp [Array.getElem?_eq_none q] at h1
theorem Till.front {i : Nat} {oi : Oper} {v : Value} (hi : ops[i]? = some oi) (hsel : ∀ (j : Nat) (o : Oper) cs b, ops[j]? = some o → o.op ≠ .select cs b) (hQ : ∀ c a w, Q (.panic c) (a.put oi.dst v) w → Q (.panic c) a w) (hz : waitsB md ops z i = true) :
    ∀ (n : Nat) (up : Array Bool) (a : Act) (w : World), (∀ j oj, ops[j]? = some oj → j ≠ i → up.getD j true = false → (∀ e ∈ oj.after, Region.binds md e = true → e.on ≠ i) → oi.apart ops oj = true) → i ∈ Region.ready md ops up → YieldsIf P ops S oi v a → S w →
      Till P md ops Q S z n (up.setIfInBounds i true) (a.put oi.dst v) w → Till P md ops Q S z (n + 1) up a w := by
  have one : ∀ {K : Act → World → Prop} {a : Act} {w : World}, YieldsIf P ops S oi v a → S w → K (a.put oi.dst v) w → wpOp P ops Q i K a w := fun hy hS hK => hy.wpOp hi hS hK
  have none : ∀ {up : Array Bool} {C : Prop}, i ∈ Region.ready md ops up → Region.ready md ops up = [] → C := fun hr h => by rw [h] at hr; cases hr
  intro n
  induction n with
  | zero =>
    intro up a w _ hr hy hS T
    refine ⟨none hr, fun j hj => ?_⟩
    rcases Classical.em (j = i) with e | e
    · rw [e]; exact one hy hS ⟨fun _ => hS, T⟩
    · have m := ready_mono (i := i) hj e
      rw [T.1] at m
      cases m
  | succ n ih =>
    intro up a w hfree hr hy hS T
    refine ⟨none hr, fun j hj => ?_⟩
    rcases Classical.em (j = i) with e | e
    · rw [e]; exact one hy hS ⟨fun _ => hS, T⟩
    · have hjz : j ≠ z := waits_not hz hr hj
      obtain ⟨hup, oj, hoj, hall⟩ := mem_ready.1 hj
      have hun : ∀ d ∈ oj.after, Region.binds md d = true → d.on ≠ i := fun d hd hb q => by
        have h1 := hall d hd hb
        rw [q] at h1
        have h0 := (mem_ready.1 hr).1
        rcases Nat.lt_or_ge i up.size with g | g
        · simp [g] at h0 h1
          rw [h0] at h1
          cases h1
        · simp [Array.getElem?_eq_none g] at h1
      have step := wpOp_putIf hoj (hfree j oj hoj e hup hun) (fun cs b => hsel i oi cs b hi) (fun cs b => hsel j oj cs b hoj) hQ hy (T.2 j (ready_mono hj e))
      refine wpOp_mono (fun a' w' q => ⟨fun _ => q.2.1 hjz, ih _ a' w' (fun k ok hk hki hku hkn => hfree k ok hk hki ?_ hkn) (ready_mono hr (Ne.symm e)) q.1 (q.2.1 hjz) ?_⟩) step
      · rcases Classical.em (j = k) with g | g
        · rw [← g]; exact hup
        · rw [getD_set_ne true g] at hku; exact hku
      · rw [Array.setIfInBounds_comm _ _ e]
        exact q.2.2
theorem Till.take {i : Nat} {oi : Oper} {v : Value} {n : Nat} {up : Array Bool} {a : Act} {w : World} (hi : ops[i]? = some oi) (hs : Region.noSelect ops = true) (hf : Region.free md ops up i = true) (hr : (Region.ready md ops up).contains i = true) (hz : waitsB md ops z i = true)
    (hQ : ∀ c a w, Q (.panic c) (a.put oi.dst v) w → Q (.panic c) a w) (hy : YieldsIf P ops S oi v a) (hS : S w) (h : Till P md ops Q S z n (up.setIfInBounds i true) (a.put oi.dst v) w) : Till P md ops Q S z (n + 1) up a w :=
  Till.front hi (Region.noSelect_spec hs) hQ hz n up a w (Region.free_spec hi hf) (by simpa using hr) hy hS h
theorem Till.next {i : Nat} {o : Oper} {n : Nat} {up : Array Bool} {a : Act} {w : World} (hr : Region.ready md ops up = [i]) (ho : ops[i]? = some o)
    (h : ∀ K : Act → World → Prop, Shut (∀ a w, (i ≠ z → S w) → Till P md ops Q S z n (up.setIfInBounds i true) a w → K a w) → if Region.wanted o (yielded ops a.tmps) = true then Oper.wp P o a w K Q else K (a.put o.dst undef) w) : Till P md ops Q S z (n + 1) up a w := by
  refine ⟨fun e => absurd e (by rw [hr]; exact List.cons_ne_nil _ _), fun j hj => ?_⟩
  rw [hr] at hj
  obtain rfl := List.mem_singleton.1 hj
  exact wpOp_step ho fun K hK => h K (fun a w hS hT => hK a w ⟨hS, hT⟩)
theorem Till.done {n : Nat} {up : Array Bool} {a : Act} {w : World} (hr : Region.ready md ops up = []) (h : Q .normal a w) : Till P md ops Q S z n up a w := by
  match n with
  | 0 => exact And.intro hr h
  | n + 1 =>
    refine ⟨fun _ => h, fun i hi => ?_⟩
    rw [hr] at hi
    cases hi
theorem Till.two {i j : Nat} {o o' : Oper} {n : Nat} {up : Array Bool} {a : Act} {w : World} (hr : Region.ready md ops up = [i, j]) (ho : ops[i]? = some o) (ho' : ops[j]? = some o')
    (h : ∀ K : Act → World → Prop, Shut (∀ a w, (i ≠ z → S w) → Till P md ops Q S z n (up.setIfInBounds i true) a w → K a w) → if Region.wanted o (yielded ops a.tmps) = true then Oper.wp P o a w K Q else K (a.put o.dst undef) w)
    (h' : ∀ K : Act → World → Prop, Shut (∀ a w, (j ≠ z → S w) → Till P md ops Q S z n (up.setIfInBounds j true) a w → K a w) → if Region.wanted o' (yielded ops a.tmps) = true then Oper.wp P o' a w K Q else K (a.put o'.dst undef) w) : Till P md ops Q S z (n + 1) up a w := by
  refine ⟨fun e => absurd e (by rw [hr]; exact List.cons_ne_nil _ _), fun k hk => ?_⟩
  rw [hr] at hk
  have hk2 : k = i ∨ k = j := by simpa using hk
  rcases hk2 with q | q
  · rw [q]; exact wpOp_step ho fun K hK => h K (fun a w hS hT => hK a w ⟨hS, hT⟩)
  · rw [q]; exact wpOp_step ho' fun K hK => h' K (fun a w hS hT => hK a w ⟨hS, hT⟩)
/-- As Till's, where S holds behind every operation. -/
theorem Till.frontA {i : Nat} {oi : Oper} {v : Value} (hi : ops[i]? = some oi) (hsel : ∀ (j : Nat) (o : Oper) cs b, ops[j]? = some o → o.op ≠ .select cs b) (hQ : ∀ c a w, Q (.panic c) (a.put oi.dst v) w → Q (.panic c) a w) (hz : ops[z]? = none) :
    ∀ (n : Nat) (up : Array Bool) (a : Act) (w : World), (∀ j oj, ops[j]? = some oj → j ≠ i → up.getD j true = false → (∀ e ∈ oj.after, Region.binds md e = true → e.on ≠ i) → oi.apart ops oj = true) → i ∈ Region.ready md ops up → YieldsIf P ops S oi v a → S w →
      Till P md ops Q S z n (up.setIfInBounds i true) (a.put oi.dst v) w → Till P md ops Q S z (n + 1) up a w := by
  have one : ∀ {K : Act → World → Prop} {a : Act} {w : World}, YieldsIf P ops S oi v a → S w → K (a.put oi.dst v) w → wpOp P ops Q i K a w := fun hy hS hK => hy.wpOp hi hS hK
  have none : ∀ {up : Array Bool} {C : Prop}, i ∈ Region.ready md ops up → Region.ready md ops up = [] → C := fun hr h => by rw [h] at hr; cases hr
  intro n
  induction n with
  | zero =>
    intro up a w _ hr hy hS T
    refine ⟨none hr, fun j hj => ?_⟩
    rcases Classical.em (j = i) with e | e
    · rw [e]; exact one hy hS ⟨fun _ => hS, T⟩
    · have m := ready_mono (i := i) hj e
      rw [T.1] at m
      cases m
  | succ n ih =>
    intro up a w hfree hr hy hS T
    refine ⟨none hr, fun j hj => ?_⟩
    rcases Classical.em (j = i) with e | e
    · rw [e]; exact one hy hS ⟨fun _ => hS, T⟩
    · obtain ⟨hup, oj, hoj, hall⟩ := mem_ready.1 hj
      have hjz : j ≠ z := fun q => by
        rw [q, hz] at hoj
        cases hoj
      have hun : ∀ d ∈ oj.after, Region.binds md d = true → d.on ≠ i := fun d hd hb q => by
        have h1 := hall d hd hb
        rw [q] at h1
        have h0 := (mem_ready.1 hr).1
        rcases Nat.lt_or_ge i up.size with g | g
        · simp [g] at h0 h1
          rw [h0] at h1
          cases h1
        · simp [Array.getElem?_eq_none g] at h1
      have step := wpOp_putIf hoj (hfree j oj hoj e hup hun) (fun cs b => hsel i oi cs b hi) (fun cs b => hsel j oj cs b hoj) hQ hy (T.2 j (ready_mono hj e))
      refine wpOp_mono (fun a' w' q => ⟨fun _ => q.2.1 hjz, ih _ a' w' (fun k ok hk hki hku hkn => hfree k ok hk hki ?_ hkn) (ready_mono hr (Ne.symm e)) q.1 (q.2.1 hjz) ?_⟩) step
      · rcases Classical.em (j = k) with g | g
        · rw [← g]; exact hup
        · rw [getD_set_ne true g] at hku; exact hku
      · rw [Array.setIfInBounds_comm _ _ e]
        exact q.2.2
theorem Till.takeA {i : Nat} {oi : Oper} {v : Value} {n : Nat} {up : Array Bool} {a : Act} {w : World} (hi : ops[i]? = some oi) (hs : Region.noSelect ops = true) (hf : Region.free md ops up i = true) (hr : (Region.ready md ops up).contains i = true) (hz : ops[z]? = none)
    (hQ : ∀ c a w, Q (.panic c) (a.put oi.dst v) w → Q (.panic c) a w) (hy : YieldsIf P ops S oi v a) (hS : S w) (h : Till P md ops Q S z n (up.setIfInBounds i true) (a.put oi.dst v) w) : Till P md ops Q S z (n + 1) up a w :=
  Till.frontA hi (Region.noSelect_spec hs) hQ hz n up a w (Region.free_spec hi hf) (by simpa using hr) hy hS h
end
end Go.Proofs.YtpikndeefiediaaGreatDoor.O

namespace Go.Proofs.YtpikndeefiediaaGreatDoor.O
open List renaming setIfInBounds_toArray → lt, set_cons_zero → l0, set_cons_succ → ls
open Go.Proofs.YtpikndeefiediaaGreatDoor.B
open Go.RowKit

def KyAt (W : World) (g : Nat) (k : Ky) : Prop := W.cell? ⟨g, 0, none⟩ = some (.string k.name) ∧ W.cell? ⟨g, 1, none⟩ = some (.int .i64 k.size) ∧ W.cell? ⟨g, 2, none⟩ = some (.int .i64 k.time) ∧ W.cell? ⟨g, 3, none⟩ = some (.bool k.dir)
theorem ky_at {w2 : World} {g : Nat} {k : Ky} (h : w2.heap[g]? = some (.cells #[.string k.name, .int .i64 k.size, .int .i64 k.time, .bool k.dir] 137 (0, 0))) : ∀ W, Below w2.heap.size w2 W → KyAt W g k := fun W hW => by
  have q := (hW.block _ (heap_lt h)).trans h
  refine ⟨?_, ?_, ?_, ?_⟩ <;> (rw [cell_of_row _ _ _ _ _ _ q]; rfl)

set_option maxRecDepth 100000 in
set_option maxHeartbeats 8000000 in
theorem palone_any (o : Int) (a b : Ky) (w : World) (ha : a.name.size ≤ 60000) (hb : b.name.size ≤ 60000) :
    Calls Tryz.prog 93 #[.int .i64 o, kyV a, kyV b] w fun e w' => e = .returned (.int .i64 (ordC o a b)) ∧ Below w.heap.size w w' := by
  have HLe := Lib.hid (fun W => scmp_any (mkB (extL a.name.data.toList)) (mkB (extL b.name.data.toList)) W)
  have HVe := Lib.hid (fun W => over_any' a.name b.name W ha hb)
  have HN1 := Lib.hid (fun W => cint64_any b.size a.size W)
  have HN2 := Lib.hid (fun W => cint64_any b.time a.time W)
  simp only [mkB_list] at HLe
  have HO := Lib.hid (show ordC o a b = if o = 1 then cmpI b.size a.size else if o = 2 then cmpI b.time a.time else if o = 3 then lessL (extL a.name.data.toList) (extL b.name.data.toList) else if o = 4 then verL a.name.data.toList b.name.data.toList else 0 from rfl)
  generalize ordC o a b = C at HO ⊢
  unfold kyV
  go_enter Tryz.func93, Tryz.ntmps93
  go_upto_region 1 with fail
  obtain ⟨X1, X2, XB⟩ := two_boxes' w #[.string a.name, .int .i64 a.size, .int .i64 a.time, .bool a.dir] #[.string b.name, .int .i64 b.size, .int .i64 b.time, .bool b.dir] 137
  have HKa := Lib.hid (ky_at X1)
  have HKb := Lib.hid (ky_at X2)
  have HB := Lib.hid XB
  have HSz := Lib.hid XB.size
  clear X1 X2 XB
  generalize (w.alloc (.cells #[.string a.name, .int .i64 a.size, .int .i64 a.time, .bool a.dir] 137)).alloc (.cells #[.string b.name, .int .i64 b.size, .int .i64 b.time, .bool b.dir] 137) = w2 at HKa HKb HB HSz ⊢
  obtain ⟨gA, hgA⟩ : ∃ g, w.heap.size = g := ⟨_, rfl⟩
  have HgA := Lib.hid hgA
  rw [hgA] at HKa HKb HB HSz ⊢
  clear hgA
  generalize gA + 1 = gB at HKb ⊢
  obtain ⟨a0, a1, a2, a3⟩ := HKa.out w2 (Below.refl _ _)
  obtain ⟨b0, b1, b2, b3⟩ := HKb.out w2 (Below.refl _ _)
  by_cases o1 : o = 1
  · rw [if_pos o1] at HO
    have d1 : (o == 1) = true := beq_iff_eq.2 o1
    clear o1
    go_wp2_with (go_at_call 95; refine (HN1.out _).mono ?_; rintro e w3 ⟨rfl, hw⟩; subst hw)
    go_ret
    exact ⟨ret_int HO.out.symm, by rw [HgA.out]; exact HB.out⟩
  · rw [if_neg o1] at HO
    have d1 : (o == 1) = false := beq_eq_false_iff_ne.2 o1
    clear o1
    by_cases o2 : o = 2
    · rw [if_pos o2] at HO
      have d2 : (o == 2) = true := beq_iff_eq.2 o2
      clear o2
      go_wp2_with (go_at_call 95; refine (HN2.out _).mono ?_; rintro e w3 ⟨rfl, hw⟩; subst hw)
      go_ret
      exact ⟨ret_int HO.out.symm, by rw [HgA.out]; exact HB.out⟩
    · rw [if_neg o2] at HO
      have d2 : (o == 2) = false := beq_eq_false_iff_ne.2 o2
      clear o2
      by_cases o3 : o = 3
      · rw [if_pos o3] at HO
        have d3 : (o == 3) = true := beq_iff_eq.2 o3
        clear o3
        have aq : ∀ n, (w2.drewN n).cell? ⟨gA, 0, none⟩ = some (.string a.name) := fun n => (HKa.out _ (below_drewNb (Below.refl _ _))).1
        have bq : ∀ n, (w2.drewN n).cell? ⟨gB, 0, none⟩ = some (.string b.name) := fun n => (HKb.out _ (below_drewNb (Below.refl _ _))).1
        go_upto_region 7 with fail
        go_quiet (first
          | (go_at_call 94; refine Calls.quiet_of_same (HLe.out _))
          | (go_at_call 96; refine Calls.quiet_of_same (pext_any _ _ (by first | exact ha | exact hb))))
        have HBd := Lib.hid (show Below gA w (w2.drewN nq) from below_drewNb HB.out)
        generalize w2.drewN nq = w3 at HBd ⊢
        go_wp2
        go_ret
        exact ⟨ret_int HO.out.symm, by rw [HgA.out]; exact HBd.out⟩
      · rw [if_neg o3] at HO
        have d3 : (o == 3) = false := beq_eq_false_iff_ne.2 o3
        clear o3
        by_cases o4 : o = 4
        · rw [if_pos o4] at HO
          have d4 : (o == 4) = true := beq_iff_eq.2 o4
          clear o4
          go_wp2_with (go_at_call 97; refine (HVe.out _).mono ?_; rintro e w3 ⟨rfl, hb⟩; have HB3 := Lib.hid (HB.out.trans (hb.mono HSz.out)); clear hb)
          go_ret
          exact ⟨ret_int HO.out.symm, by rw [HgA.out]; exact HB3.out⟩
        · rw [if_neg o4] at HO
          have d4 : (o == 4) = false := beq_eq_false_iff_ne.2 o4
          clear o4
          go_wp2_with fail
          go_ret
          exact ⟨ret_int HO.out.symm, by rw [HgA.out]; exact HB.out⟩

set_option maxRecDepth 100000 in
set_option maxHeartbeats 8000000 in
theorem pcompare_any (o : Int) (a b : Ky) (w : World) (ha : a.name.size ≤ 60000) (hb : b.name.size ≤ 60000) :
    Calls Tryz.prog 88 #[.int .i64 o, kyV a, kyV b] w fun e w' => e = .returned (.int .i64 (cmpK o a b)) ∧ Below w.heap.size w w' := by
  have HA := Lib.hid (fun W => palone_any o a b W ha hb)
  have HS := Lib.hid (fun W => scmp_any a.name b.name W)
  have HC := Lib.hid (show cmpK o a b = if ordC o a b = 0 then nameC a b else ordC o a b from rfl)
  have HNm := Lib.hid (show nameC a b = lessL a.name.data.toList b.name.data.toList from rfl)
  rw [HNm.out] at HC
  clear HNm
  generalize ordC o a b = C at HC HA
  generalize cmpK o a b = R at HC ⊢
  generalize lessL a.name.data.toList b.name.data.toList = L at HC HS
  unfold kyV at HA ⊢
  go_enter Tryz.func88, Tryz.ntmps88
  go_upto_region 1 with fail
  obtain ⟨X1, X2, XB⟩ := two_boxes' w #[.string a.name, .int .i64 a.size, .int .i64 a.time, .bool a.dir] #[.string b.name, .int .i64 b.size, .int .i64 b.time, .bool b.dir] 137
  have HKa := Lib.hid (ky_at X1)
  have HKb := Lib.hid (ky_at X2)
  have HB := Lib.hid XB
  have HSz := Lib.hid XB.size
  clear X1 X2 XB
  generalize (w.alloc (.cells #[.string a.name, .int .i64 a.size, .int .i64 a.time, .bool a.dir] 137)).alloc (.cells #[.string b.name, .int .i64 b.size, .int .i64 b.time, .bool b.dir] 137) = w2 at HKa HKb HB HSz ⊢
  obtain ⟨gA, hgA⟩ : ∃ g, w.heap.size = g := ⟨_, rfl⟩
  have HgA := Lib.hid hgA
  rw [hgA] at HKa HKb HB HSz ⊢
  clear hgA
  generalize gA + 1 = gB at HKb ⊢
-- TILL 1
  refine Till.region (z := 1000) (S := fun w' => Below w2.heap.size w2 w') (by kernel_rfl) ((Below.refl _ _).drew) (fun hHeld => ?_)
  refine Till.takeA (i := 0) (oi := ⟨some 7, .move (.tmp 0), 3, "order.go:29", #[], none⟩) (v := .int .i64 o) rfl (by kernel_rfl) (by kernel_rfl) (by kernel_rfl) (by rfl) (fun _ _ _ h => h) (Or.inl ⟨by rfl, fun w0 hS0 => ?_⟩) (by assumption) ?_
  · go_simp
  try simp only [Act.put, lt, l0, ls]
  refine Till.takeA (i := 1) (oi := ⟨some 8, .load 137 (.tmp 4), 137, "order.go:29", #[], none⟩) (v := .agg #[.string a.name, .int .i64 a.size, .int .i64 a.time, .bool a.dir]) rfl (by kernel_rfl) (by kernel_rfl) (by kernel_rfl) (by rfl) (fun _ _ _ h => h) (Or.inl ⟨by rfl, fun w0 hS0 => ?_⟩) (by assumption) ?_
  · obtain ⟨r0, r1, r2, r3⟩ := HKa.out _ hS0; go_simp
  try simp only [Act.put, lt, l0, ls]
  refine Till.takeA (i := 2) (oi := ⟨some 9, .load 137 (.tmp 5), 137, "order.go:29", #[], none⟩) (v := .agg #[.string b.name, .int .i64 b.size, .int .i64 b.time, .bool b.dir]) rfl (by kernel_rfl) (by kernel_rfl) (by kernel_rfl) (by rfl) (fun _ _ _ h => h) (Or.inl ⟨by rfl, fun w0 hS0 => ?_⟩) (by assumption) ?_
  · obtain ⟨r0, r1, r2, r3⟩ := HKb.out _ hS0; go_simp
  try simp only [Act.put, lt, l0, ls]
  refine Till.takeA (i := 4) (oi := ⟨some 11, .fieldAddr 137 (.tmp 4) 0, 0, "order.go:29", #[], none⟩) (v := .pointer (some ⟨gA, 0, none⟩)) rfl (by kernel_rfl) (by kernel_rfl) (by kernel_rfl) (by rfl) (fun _ _ _ h => h) (Or.inl ⟨by rfl, fun w0 hS0 => ?_⟩) (by assumption) ?_
  · go_simp
  try simp only [Act.put, lt, l0, ls]
  refine Till.takeA (i := 5) (oi := ⟨some 12, .load 9 (.tmp 11), 9, "order.go:29", #[⟨4, .data⟩], none⟩) (v := .string a.name) rfl (by kernel_rfl) (by kernel_rfl) (by kernel_rfl) (by rfl) (fun _ _ _ h => h) (Or.inl ⟨by rfl, fun w0 hS0 => ?_⟩) (by assumption) ?_
  · obtain ⟨r0, r1, r2, r3⟩ := HKa.out _ hS0; go_simp
  try simp only [Act.put, lt, l0, ls]
  refine Till.takeA (i := 6) (oi := ⟨some 13, .fieldAddr 137 (.tmp 5) 0, 0, "order.go:29", #[], none⟩) (v := .pointer (some ⟨gB, 0, none⟩)) rfl (by kernel_rfl) (by kernel_rfl) (by kernel_rfl) (by rfl) (fun _ _ _ h => h) (Or.inl ⟨by rfl, fun w0 hS0 => ?_⟩) (by assumption) ?_
  · go_simp
  try simp only [Act.put, lt, l0, ls]
  refine Till.takeA (i := 7) (oi := ⟨some 14, .load 9 (.tmp 13), 9, "order.go:29", #[⟨6, .data⟩], none⟩) (v := .string b.name) rfl (by kernel_rfl) (by kernel_rfl) (by kernel_rfl) (by rfl) (fun _ _ _ h => h) (Or.inl ⟨by rfl, fun w0 hS0 => ?_⟩) (by assumption) ?_
  · obtain ⟨r0, r1, r2, r3⟩ := HKb.out _ hS0; go_simp
  try simp only [Act.put, lt, l0, ls]
  refine Till.next (i := 3) (o := ⟨some 10, .call ⟨.value (.func 93), #[.tmp 7, .tmp 8, .tmp 9], #[3, 137, 137]⟩, 3, "order.go:29", #[⟨0, .data⟩, ⟨1, .data⟩, ⟨2, .data⟩], none⟩) (by kernel_rfl) rfl (fun K hK => ?_)
  go_simp
  refine (HA.out _).mono ?_
  rintro e w3 ⟨rfl, hb3⟩
  have hHeld3 : Below w2.heap.size w2 w3 := below_two hHeld hb3
  clear hb3
  go_wp2_with fail
  refine hK.out _ _ (fun _ => hHeld3) ?_
  clear hK K
  try simp only [Act.put, lt, l0, ls]
  refine Till.next (i := 8) (o := ⟨some 15, .call ⟨.value (.func 94), #[.tmp 12, .tmp 14], #[9, 9]⟩, 3, "order.go:29", #[⟨5, .data⟩, ⟨7, .data⟩, ⟨3, .chain⟩], none⟩) (by kernel_rfl) rfl (fun K hK => ?_)
  go_simp
  refine (HS.out _).mono ?_
  rintro e w4 ⟨rfl, hw⟩
  subst hw
  go_wp2_with fail
  refine hK.out _ _ (fun _ => hHeld3) ?_
  clear hK K
  try simp only [Act.put, lt, l0, ls]
  refine Till.next (i := 9) (o := ⟨some 16, .buildSlice 28 2 #[(0, .tmp 10), (1, .tmp 15)], 28, "order.go:29", #[⟨3, .data⟩, ⟨8, .data⟩], none⟩) (by kernel_rfl) rfl (fun K hK => ?_)
  go_simp
  refine hK.out _ _ (fun _ => hHeld3.alloc hHeld3.size _) ?_
  clear hK K
  try simp only [Act.put, lt, l0, ls]
  refine Till.next (i := 10) (o := ⟨some 17, .call ⟨.value (.func 92), #[.tmp 16], #[28]⟩, 3, "order.go:29", #[⟨9, .data⟩, ⟨8, .chain⟩], none⟩) (by kernel_rfl) rfl (fun K hK => ?_)
  go_simp
  refine (cor2_any C L R _ HC.out).mono ?_
  rintro e w5 ⟨rfl, hb5⟩
  have hHeld5 : Below w2.heap.size w2 w5 := below_two hHeld3 hb5
  clear hb5
  go_wp2_with fail
  refine hK.out _ _ (fun _ => hHeld5) ?_
  clear hK K
  try simp only [Act.put, lt, l0, ls]
  refine Till.takeA (i := 11) (oi := ⟨some 6, .assign (.tmp 17), 3, "order.go:29", #[⟨10, .data⟩, ⟨10, .chain⟩, ⟨0, .phase⟩, ⟨1, .phase⟩, ⟨2, .phase⟩, ⟨3, .phase⟩, ⟨4, .phase⟩, ⟨5, .phase⟩, ⟨6, .phase⟩, ⟨7, .phase⟩, ⟨8, .phase⟩, ⟨9, .phase⟩, ⟨10, .phase⟩], none⟩) (v := .int .i64 R) rfl (by kernel_rfl) (by kernel_rfl) (by kernel_rfl) (by rfl) (fun _ _ _ h => h) (Or.inl ⟨by rfl, fun w0 hS0 => ?_⟩) (by assumption) ?_
  · go_simp
  try simp only [Act.put, lt, l0, ls]
  refine Till.done (by kernel_rfl) ?_
-- TILL 1 END
  go_wp2
  go_ret
  exact ⟨rfl, by rw [HgA.out]; exact HB.out.trans (hHeld5.mono HSz.out)⟩
end Go.Proofs.YtpikndeefiediaaGreatDoor.O
