/-
  What slices.DeleteFunc returns of a row of entries that was made, with roam's isHidden: the row without those that begin with a point. Conditions: at most 1000000 entries.
  What roam's sorted returns of a row of entries that was made: the entries by their names' bytes. Conditions: at most 1000 entries of different names, names of at most 60000 bytes.
-/
import Derived.Test.YtpikndeefiediaaGreatDoorKGDel
import Derived.BigFrame
import Derived.Test.YtpikndeefiediaaGreatDoorKGShownM
import Derived.Test.YtpikndeefiediaaGreatDoorKOProg
set_option linter.unusedVariables false
set_option linter.unusedSimpArgs false
namespace Go.Proofs.YtpikndeefiediaaGreatDoor.G
open Go.RowKit

/-- clear of what stands behind the first i of an own row. -/
theorem clear_row {w : World} {b g n cap : Nat} {Z : List Ent} (h : w.ownsRow b 45 2 (.slice (some ⟨g, 0, none⟩) n cap) n (rowsC enC' Z)) {i : Nat} (hi : i < n) (hZ : Z.length = n) :
    ∃ arr, (∀ ty, (Builtin.clear_ #[40] ty #[.slice (some ⟨g, i * 2, none⟩) (n - i) (cap - i)]).run Tryz.prog w = .ok (.tuple #[]) (w.setRow g arr)) ∧ (w.setRow g arr).ownsRow b 45 2 (.slice (some ⟨g, 0, none⟩) i cap) i (rowsC enC' (Z.take i)) := by
  rcases h.2 with ⟨q, _⟩ | ⟨g', cap', cur, hv, hB, hg, hnc, hcm, hcs, ht⟩
  · cases q
  · simp only [Value.slice.injEq, Option.some.injEq, Addr.mk.injEq] at hv
    obtain ⟨⟨rfl, _, _⟩, _, rfl⟩ := hv
    obtain ⟨i0, hi0, hz0, hz1, hz2⟩ := info_parts infoEnt
    have hzv : ∀ w : World, (zeroValue 45).run Tryz.prog w = .ok (.agg #[.string ⟨#[]⟩, .int .i64 0]) w := fun w => by kernel_rfl
    have hzl := zeros_len #[.string ⟨#[]⟩, .int .i64 0] rfl (n - i)
    have hst := run_storeCells_at (P := Tryz.prog) g (i * 2) 45 (Builtin.zeroCells #[.string ⟨#[]⟩, .int .i64 0] (n - i)).toList 0 cur w hg (by rw [hzl]; omega) (zeros_one _)
    rw [hzl] at hst
    rw [Nat.add_zero] at hst
    refine ⟨(cur.toList.take (i * 2) ++ (Builtin.zeroCells #[.string ⟨#[]⟩, .int .i64 0] (n - i)).toList ++ cur.toList.drop (i * 2 + (n - i) * 2)).toArray, fun ty => ?_, ?_⟩
    · obtain ⟨m, hm⟩ : ∃ m, n - i = m + 1 := ⟨n - i - 1, by omega⟩
      rw [hm] at hst ⊢
      simp only [Builtin.clear_, Value.cells] at hst ⊢
      simp [run_underlying Tryz.underlying40, hzv, hst, Value.cells]
    · have hl2 : (cur.toList.take (i * 2)).length = i * 2 := by rw [List.length_take, Array.length_toList, hcs]; omega
      refine ⟨by rw [rowsC_len enC'_len, List.length_take]; omega, .inr ⟨g, cap, _, rfl, hB, setRow_heap _ _ _ _ _ _ hg, by omega, hcm, ?_, ?_⟩⟩
      · rw [List.size_toArray, List.length_append, List.length_append, hl2, hzl, List.length_drop, Array.length_toList, hcs]
        omega
      · rw [List.toList_toArray, List.append_assoc, List.take_append_of_le_length (by omega), List.take_of_length_le (by omega)]
        have e2 := congrArg (List.take (i * 2)) ht
        rw [List.take_take, rowsC_take enC'_len, Nat.min_eq_left (by omega)] at e2
        exact e2

theorem below_setRow_n {B g : Nat} {a w : World} (h : Below B a w) (hg : B ≤ g) (cs : Array Value) : Below B a (w.setRow g cs) :=
  ⟨h.os, h.tape, h.output, by have := h.size; simp [World.setRow]; omega, fun k hk => by rw [setRow_other _ _ _ _ (by omega)]; exact h.block k hk⟩
def DelRel (l : List Ent) (b g cap : Nat) (W0 : World) (v5 v6 : Value) (wr : World) : Prop :=
  ∃ (i j : Nat) (Z : List Ent), v5 = .int .i64 (i : Int) ∧ v6 = .int .i64 (j : Int) ∧ j ≤ l.length ∧ Hid (DelOk l Z i j) ∧ Hid (wr.ownsRow b 45 2 (.slice (some ⟨g, 0, none⟩) l.length cap) l.length (rowsC enC' Z)) ∧ Hid (Below W0.heap.size W0 wr)
set_option maxRecDepth 100000 in
set_option maxHeartbeats 8000000 in
theorem delete_any (v : Value) (l : List Ent) (b : Nat) (W0 w : World) (H : w.ownsRow b 45 2 v l.length (rowsC enC' l)) (hl : l.length ≤ 1000000) (hb : W0.heap.size ≤ b) (hlow : Below W0.heap.size W0 w) :
    Calls Tryz.prog 63 #[v, .func (.func 64) #[] #[]] w fun x w' => ∃ u, x = .returned u ∧ w'.ownsRow b 45 2 u (keepL l).length (rowsC enC' (keepL l)) ∧ Below W0.heap.size W0 w' := by
  have HI := Lib.hid (index_any v l b w H hl)
  have HH := Lib.hid H
  have HLow := Lib.hid hlow
  have HB := Lib.hid hb
  clear H hlow hb
  go_enter Tryz.func63, Tryz.ntmps63
  go_wp2_with fail
  refine HI.out.mono ?_
  rintro x w1 ⟨r, rfl, hr, hb1⟩
  have HL1 := Lib.hid (HLow.out.trans (hb1.mono HLow.out.size))
  have HO1 := Lib.hid (B.owns_to HH.out hb1)
  clear hb1 HI HH HLow
  rcases hr with ⟨rfl, hall⟩ | ⟨i, e, rfl, he, hh, hbf⟩
  · have HK := Lib.hid (show keepL l = l from List.filter_eq_self.2 fun x hx => by rw [hall x hx]; rfl)
    clear hall
    go_wp2_with fail
    go_ret
    exact ⟨v, rfl, by rw [HK.out]; exact HO1.out, HL1.out⟩
  · have HD := Lib.hid (DelOk.start he hh hbf)
    have hil : i < l.length := (List.getElem?_eq_some_iff.1 he).1
    clear he hh hbf
    obtain ⟨g, cap, rfl, hlc, hcm⟩ := B.owns_some HO1.out (by omega)
    have d0 : ((i : Int) == -1) = false := by rw [beq_eq_false_iff_ne]; omega
    have hw0 : IntKind.i64.wrap ((i : Int) + 1) = (i : Int) + 1 := IntWalk.i64_in _ (by omega)
    go_wp2_with fail
    go_loopw [5, 6] (DelRel l b g cap W0) (fun _ v _ => l.length - (intOf v).toNat)
    case atStart => exact ⟨i, i + 1, l, rfl, by simp, by omega, HD, HO1, HL1⟩
    case round =>
      clear d0 hw0 hil HD HO1 HL1
      obtain ⟨i, j, Z, rfl, rfl, hj, HD, HO, HL⟩ := hrel
      have hij : i < j := HD.out.2.2.2
      by_cases hlt : j < l.length
      · have d1 : decide ((j : Int) < (l.length : Int)) = true := decide_eq_true (by omega)
        obtain ⟨e, he⟩ : ∃ e, l[j]? = some e := ⟨_, List.getElem?_eq_getElem hlt⟩
        have HE := Lib.hid he
        have hze := HD.out.at_ he
        have r0 : wr.cell? ⟨g, j * 2, none⟩ = some (.string e.1) := B.owns_cell HO.out ((rowsC_get enC'_len _ _ 0 _ hze (by decide)).trans rfl)
        have r1 : wr.cell? ⟨g, j * 2 + 1, none⟩ = some (.int .i64 e.2) := B.owns_cell HO.out ((rowsC_get enC'_len _ _ 1 _ hze (by decide)).trans rfl)
        clear he hze
        go_upto_region 8 with fail
        have HX2 := Lib.hid (heap_alloc_new wr (.cells #[.string e.1, .int .i64 e.2] 45))
        have HB2 := Lib.hid ((Below.refl wr.heap.size wr).alloc (Nat.le_refl _) (.cells #[.string e.1, .int .i64 e.2] 45))
        generalize wr.alloc (.cells #[.string e.1, .int .i64 e.2] 45) = w2 at HX2 HB2 ⊢
        have HO2 := Lib.hid (B.owns_to HO.out HB2.out)
        have HL2 := Lib.hid (HL.out.trans (HB2.out.mono HL.out.size))
        clear r0 r1 HB2 HO HL
        generalize wr.heap.size = B4 at HX2 ⊢
        have q0 : w2.cell? ⟨B4, 0, none⟩ = some (.string e.1) := by rw [cell_of_row _ _ _ _ _ _ HX2.out]; rfl
        have q1 : w2.cell? ⟨B4, 1, none⟩ = some (.int .i64 e.2) := by rw [cell_of_row _ _ _ _ _ _ HX2.out]; rfl
        go_wp2_with fail
        refine (hidden_any e w2).mono ?_
        rintro x w3 ⟨rfl, hb3⟩
        have HX3 := Lib.hid ((hb3.block _ (B.heap_lt HX2.out)).trans HX2.out)
        have HO3 := Lib.hid (B.owns_to HO2.out hb3)
        have HL3 := Lib.hid (HL2.out.trans (hb3.mono HL2.out.size))
        clear hb3 q0 q1 HX2 HO2 HL2
        cases hh : hidB e with
        | true =>
          have HDn := Lib.hid (HD.out.skip HE.out hh)
          clear hh
          go_wp2_with fail
          go_roundw
          case rel => exact ⟨i, j + 1, Z, rfl, by simp, by omega, HDn, HO3, HL3⟩
          case measure => simp [intOf]; omega
        | false =>
          have HDn := Lib.hid (HD.out.put HE.out hh)
          have hiZ : i < Z.length := by rw [HD.out.1]; omega
          have HO4 := Lib.hid (owns_pair HO3.out hiZ e)
          have HL4 := Lib.hid (show Below W0.heap.size W0 (w3.setCells g (i * 2) [.string e.1, .int .i64 e.2]) from (HL3.out.setCell (p := ⟨g, i * 2, none⟩) (Nat.le_trans HB.out (HO3.out.lt g rfl).1) _).setCell (p := ⟨g, i * 2 + 1, none⟩) (Nat.le_trans HB.out (HO3.out.lt g rfl).1) _)
          have HTh := Lib.hid (show w3.there g (i * 2) 2 from fun k hk => by
            obtain ⟨z, hz⟩ : ∃ z, Z[i]? = some z := ⟨_, List.getElem?_eq_getElem hiZ⟩
            refine ⟨?_, B.owns_frozen HO3.out _⟩
            have : k = 0 ∨ k = 1 := by omega
            rcases this with rfl | rfl
            · rw [B.owns_cell HO3.out ((rowsC_get enC'_len _ _ 0 _ hz (by decide)).trans rfl)]; rfl
            · rw [B.owns_cell HO3.out ((rowsC_get enC'_len _ _ 1 _ hz (by decide)).trans rfl)]; rfl)
          have q0 : w3.cell? ⟨B4, 0, none⟩ = some (.string e.1) := by rw [cell_of_row _ _ _ _ _ _ HX3.out]; rfl
          have q1 : w3.cell? ⟨B4, 1, none⟩ = some (.int .i64 e.2) := by rw [cell_of_row _ _ _ _ _ _ HX3.out]; rfl
          have hw1 : IntKind.i64.wrap ((i : Int) + 1) = (i : Int) + 1 := IntWalk.i64_in _ (by omega)
          have hil : i < l.length := by omega
          clear hh hiZ
          go_wp2_with (refine wpList_store_mid rfl 45 (.tmp 33) (.tmp 32) rfl g (i * 2) #[.string e.1, .int .i64 e.2] rfl rfl HTh.out sizeEnt (by simp [Value.oneCell']) ?_)
          go_roundw
          case rel => exact ⟨i + 1, j + 1, Z.set i e, by simp, by simp, by omega, HDn, HO4, HL4⟩
          case measure => simp [intOf]; omega
      · have d1 : decide ((j : Int) < (l.length : Int)) = false := decide_eq_false (by omega)
        obtain rfl : j = l.length := by omega
        have HTk := Lib.hid (show Z.take i = keepL l from by have := HD.out.2.1; rwa [List.take_length] at this)
        have hil : i < l.length := hij
        obtain ⟨arr, hcl, hown⟩ := clear_row HO.out hil HD.out.1
        have HOw := Lib.hid hown
        have HLa := Lib.hid (below_setRow_n HL.out (Nat.le_trans HB.out (HO.out.lt g rfl).1) arr)
        have hc1 : ¬ cap = i := by omega
        have hc2 : i ≤ cap := by omega
        have hc3 : i ≤ l.length := by omega
        have hc4 : IntKind.i64.wrap (i : Int) = (i : Int) := IntWalk.i64_in _ (by omega)
        clear hown
        go_wp2_with fail
        go_ret
        have HLn := Lib.hid (show (keepL l).length = i from by rw [← HTk.out, List.length_take, HD.out.1]; omega)
        exact ⟨_, rfl, by rw [HLn.out, ← HTk.out]; exact HOw.out, HLa.out⟩
end Go.Proofs.YtpikndeefiediaaGreatDoor.G

namespace Go.Proofs.YtpikndeefiediaaGreatDoor.G
open Go.RowKit

theorem made_rows {α : Type} {f : α → List Value} {k : Nat} (hk : ∀ x, (f x).length = k) (h0 : 0 < k) (x : α) (n : Nat) : (madeCells (f x).toArray (n * k)).toList = rowsC f (List.replicate n x) := by
  apply List.ext_getElem?
  intro m
  by_cases hm : m < n * k
  · have h1 : (rowsC f (List.replicate n x))[m / k * k + m % k]? = (f x)[m % k]? := rowsC_get hk _ _ _ x (by rw [List.getElem?_replicate, if_pos (Nat.div_lt_of_lt_mul (by rw [Nat.mul_comm]; exact hm))]) (Nat.mod_lt _ h0)
    rw [Nat.div_add_mod' m k] at h1
    rw [h1]
    have h2 : m % k < (f x).length := by rw [hk]; exact Nat.mod_lt _ h0
    simp [madeCells, hm, hk]
    rw [List.getElem?_eq_getElem h2]
    rfl
  · have h1 : (rowsC f (List.replicate n x)).length = n * k := by rw [rowsC_len hk, List.length_replicate]
    have h3 : (madeCells (f x).toArray (n * k)).toList.length = n * k := by simp [madeCells]
    rw [List.getElem?_eq_none (by rw [h3]; omega), List.getElem?_eq_none (by rw [h1]; omega)]
def keyOf (e : Ent) : O.Ky := ⟨e.1, 0, 0, false⟩
def keyC (c : O.Ky) : List Value := [.string c.name, .int .i64 c.size, .int .i64 c.time, .bool c.dir]
theorem keyC_len (c : O.Ky) : (keyC c).length = 4 := rfl
/-- The keys of the first i entries; the others are still empty. -/
def keysL (l : List Ent) (i : Nat) : List O.Ky := (l.take i).map keyOf ++ List.replicate (l.length - i) O.noKy
theorem keysL_len {l : List Ent} {i : Nat} (h : i ≤ l.length) : (keysL l i).length = l.length := by
  unfold keysL
  rw [List.length_append, List.length_map, List.length_take, List.length_replicate]
  omega
theorem keysL_at {l : List Ent} {i : Nat} (h : i < l.length) : (keysL l i)[i]? = some O.noKy := by
  unfold keysL
  rw [List.getElem?_append_right (by rw [List.length_map, List.length_take]; omega), List.getElem?_replicate, if_pos (by rw [List.length_map, List.length_take]; omega)]
theorem keysL_next {l : List Ent} {i : Nat} {e : Ent} (he : l[i]? = some e) : (keysL l i).set i (keyOf e) = keysL l (i + 1) := by
  have h := (List.getElem?_eq_some_iff.1 he).1
  unfold keysL
  rw [List.set_append_right _ _ (by rw [List.length_map, List.length_take]; omega), show i - ((l.take i).map keyOf).length = 0 by rw [List.length_map, List.length_take]; omega]
  obtain ⟨m, hm⟩ : ∃ m, l.length - i = m + 1 := ⟨l.length - i - 1, by omega⟩
  rw [hm, List.replicate_succ, List.set_cons_zero, show l.length - (i + 1) = m by omega, take_snoc he, List.map_append, List.append_assoc]
  rfl
theorem keysL_all (l : List Ent) : keysL l l.length = l.map keyOf := by
  unfold keysL
  rw [List.take_length, Nat.sub_self, List.replicate_zero, List.append_nil]
def noEnt : Ent := (⟨#[]⟩, 0)
def toldL (l : List Ent) (p : List Nat) (i : Nat) : List Ent := (p.take i).map (atE l) ++ List.replicate (l.length - i) noEnt
theorem toldL_next {l : List Ent} {p : List Nat} {i k : Nat} (hp : p.length = l.length) (hk : p[i]? = some k) : (toldL l p i).set i (atE l k) = toldL l p (i + 1) := by
  have h := (List.getElem?_eq_some_iff.1 hk).1
  unfold toldL
  rw [List.set_append_right _ _ (by rw [List.length_map, List.length_take]; omega), show i - ((p.take i).map (atE l)).length = 0 by rw [List.length_map, List.length_take]; omega]
  obtain ⟨m, hm⟩ : ∃ m, l.length - i = m + 1 := ⟨l.length - i - 1, by omega⟩
  rw [hm, List.replicate_succ, List.set_cons_zero, show l.length - (i + 1) = m by omega, show p.take (i + 1) = p.take i ++ [k] by rw [List.take_add_one, hk]; rfl, List.map_append, List.append_assoc]
  rfl
theorem toldL_len {l : List Ent} {p : List Nat} {i : Nat} (hp : p.length = l.length) (h : i ≤ l.length) : (toldL l p i).length = l.length := by
  unfold toldL
  rw [List.length_append, List.length_map, List.length_take, List.length_replicate]
  omega
theorem toldL_all {l : List Ent} {p : List Nat} (hp : p.length = l.length) : toldL l p l.length = p.map (atE l) := by
  unfold toldL
  rw [← hp, List.take_length, hp, Nat.sub_self, List.replicate_zero, List.append_nil]
/-- The places by which keys are sorted put entries in order. -/
theorem told_sorted {l : List Ent} {p : List Nat} (hd : DiffE l) (hp : O.Sorted (O.soC 0 false false) (l.map keyOf) p) : p.map (atE l) = sortE l := by
  unfold O.Sorted at hp
  rw [List.length_map] at hp
  refine places_sorted hd hp fun i k hi hk ha hik => ?_
  have hat : ∀ j, j < l.length → (l.map keyOf).getD j O.noKy = keyOf (atE l j) := fun j hj => by
    unfold atE
    rw [List.getD_eq_getElem?_getD, List.getD_eq_getElem?_getD, List.getElem?_map, List.getElem?_eq_getElem hj]
    rfl
  unfold O.aheadL at ha
  rw [hat i hi, hat k hk] at ha
  have hc : ∀ a b : Ent, O.soC 0 false false (keyOf a) (keyOf b) ≤ 0 → enC a b ≤ 0 := fun a b h => by
    have e : O.soC 0 false false (keyOf a) (keyOf b) = enC a b := by
      unfold O.soC O.thenC
      rw [if_pos (show O.dirC false (keyOf a) (keyOf b) = 0 from rfl)]
      unfold O.revC O.cmpK O.thenC
      rw [if_neg (by decide), if_pos (show O.ordC 0 (keyOf a) (keyOf b) = 0 from by unfold O.ordC; simp)]
      rfl
    rw [← e]; exact h
  simp only [Bool.or_eq_true, decide_eq_true_eq, Bool.and_eq_true] at ha
  rcases ha with h | ⟨h, _⟩
  · exact hc _ _ (by omega)
  · exact hc _ _ (by omega)
theorem infoKey : (Tryz.prog.info? 137).map (fun i => (i.zero, i.size, i.bytes)) = some (some (.agg #[.string ⟨#[]⟩, .int .i64 0, .int .i64 0, .bool false]), 4, 40) := by kernel_rfl
def KeyRel (l : List Ent) (gk : Nat) (b : Nat) (W0 : World) (v : Value) (wr : World) : Prop :=
  ∃ i : Nat, i ≤ l.length ∧ v = .int .i64 (i : Int) ∧ Hid (wr.ownsRow b 137 4 (.slice (some ⟨gk, 0, none⟩) l.length l.length) l.length (rowsC keyC (keysL l i))) ∧ Hid (Below b W0 wr)
def ToldRel (l : List Ent) (p : List Nat) (gt b b6 : Nat) (vp : Value) (W0 : World) (v : Value) (wr : World) : Prop :=
  ∃ i : Nat, i ≤ l.length ∧ v = .int .i64 (i : Int) ∧ Hid (wr.ownsRow b 45 2 (.slice (some ⟨gt, 0, none⟩) l.length l.length) l.length (rowsC enC' (toldL l p i))) ∧ Hid (wr.ownsRow b6 3 1 vp l.length (O.ints (p.map fun i : Nat => (i : Int)))) ∧ Hid (Below b W0 wr)
set_option maxRecDepth 100000 in
set_option maxHeartbeats 8000000 in
theorem sorted_any (v : Value) (l : List Ent) (b : Nat) (w : World) (H : w.ownsRow b 45 2 v l.length (rowsC enC' l)) (hl : l.length ≤ 1000) (hd : DiffE l) (hz : ∀ e ∈ l, e.1.size ≤ 60000) :
    Calls Tryz.prog 65 #[v] w fun x w' => ∃ u, x = .returned u ∧ w'.ownsRow w.heap.size 45 2 u (sortE l).length (rowsC enC' (sortE l)) ∧ Below w.heap.size w w' := by
  obtain ⟨k0, hk0, kz0, kz1, kz2⟩ := info_parts infoKey
  obtain ⟨e0, he0, ez0, ez1, ez2⟩ := info_parts infoEnt
  have HD := Lib.hid hd
  have HZ := Lib.hid hz
  have HH := Lib.hid H
  obtain ⟨ao, cap, rfl⟩ := B.owns_form H
  clear H hd hz
  go_enter Tryz.func65, Tryz.ntmps65
  go_upto_region 2 with (at_make; go_loud (refine wpList_make_full _ rfl (.tmp 10) (.tmp 10) 135 rfl w.heap.size 137 k0 (.agg #[.string ⟨#[]⟩, .int .i64 0, .int .i64 0, .bool false]) 4 Tryz.underlying135 hk0 kz0 kz1 .i64 .i64 _ _ l.length rfl rfl rfl rfl (by rw [kz2]; omega) (by unfold maxLen; omega) (Nat.le_refl _) ?_; intro w1 hown hgrow))
  have hmk := made_rows (f := keyC) keyC_len (by decide) O.noKy l.length
  have HK1 := Lib.hid (show w1.ownsRow w.heap.size 137 4 (.slice (some ⟨w.heap.size, 0, none⟩) l.length l.length) l.length (rowsC keyC (keysL l 0)) from by
    have e : keysL l 0 = List.replicate l.length O.noKy := rfl
    rw [e, ← hmk]; exact hown)
  have HB1 := Lib.hid ((Below.refl w.heap.size w).grown hgrow (Nat.le_refl _) (fun j hj => by cases hj))
  clear hown hgrow hmk
  have HLk := Lib.hid (show w.heap.size < w1.heap.size from (HK1.out.lt _ rfl).2)
  go_wp2_with fail
  go_loopw [14] (KeyRel l w.heap.size w.heap.size w) (fun v _ => l.length - (intOf v).toNat)
  case atStart => exact ⟨0, Nat.zero_le _, rfl, HK1, HB1⟩
  case round =>
    clear HK1 HB1 HLk
    obtain ⟨i, hi, rfl, HK, HB⟩ := hrel
    have HW := Lib.hid (B.owns_to HH.out HB.out)
    by_cases hlt : i < l.length
    · have d1 : decide ((i : Int) < (l.length : Int)) = true := decide_eq_true (by omega)
      obtain ⟨e, he⟩ : ∃ e, l[i]? = some e := ⟨_, List.getElem?_eq_getElem hlt⟩
      have HE := Lib.hid he
      obtain ⟨g, c2, hv, _, _⟩ := B.owns_some HW.out (by omega)
      simp only [Value.slice.injEq] at hv
      obtain ⟨rfl, _, rfl⟩ := hv
      have r0 : wr.cell? ⟨g, i * 2, none⟩ = some (.string e.1) := B.owns_cell HW.out ((rowsC_get enC'_len _ _ 0 _ he (by decide)).trans rfl)
      have r1 : wr.cell? ⟨g, i * 2 + 1, none⟩ = some (.int .i64 e.2) := B.owns_cell HW.out ((rowsC_get enC'_len _ _ 1 _ he (by decide)).trans rfl)
      clear he
      go_upto_region 5 with fail
      have HX2 := Lib.hid (heap_alloc_new wr (.cells #[.string e.1, .int .i64 e.2] 45))
      have HB2 := Lib.hid ((Below.refl wr.heap.size wr).alloc (Nat.le_refl _) (.cells #[.string e.1, .int .i64 e.2] 45))
      generalize wr.alloc (.cells #[.string e.1, .int .i64 e.2] 45) = w2 at HX2 HB2 ⊢
      have HK2 := Lib.hid (B.owns_to HK.out HB2.out)
      have HL2 := Lib.hid (HB.out.trans (HB2.out.mono HB.out.size))
      clear r0 r1 HB2 HK HB HW
      generalize wr.heap.size = B4 at HX2 ⊢
      have q0 : w2.cell? ⟨B4, 0, none⟩ = some (.string e.1) := by rw [cell_of_row _ _ _ _ _ _ HX2.out]; rfl
      have n0 : w2.cell? ⟨w.heap.size, i * 4, none⟩ = some (.string ⟨#[]⟩) := B.owns_cell HK2.out ((rowsC_get keyC_len _ _ 0 _ (keysL_at hlt) (by decide)).trans rfl)
      have f0 : w2.frozen? ⟨w.heap.size, i * 4, none⟩ = false := B.owns_frozen HK2.out _
      have HK3 := Lib.hid (show (w2.setCell ⟨w.heap.size, i * 4, none⟩ (.string e.1)).ownsRow w.heap.size 137 4 (.slice (some ⟨w.heap.size, 0, none⟩) l.length l.length) l.length (rowsC keyC (keysL l (i + 1))) from by
        have h1 := B.owns_setCell HK2.out (j := i * 4 + 0) (by rw [rowsC_len keyC_len, keysL_len hi]; omega) (.string e.1)
        rw [rowsC_set keyC_len (keysL l i) i 0 O.noKy (keyOf e) (.string e.1) (keysL_at hlt) (by decide) rfl, keysL_next HE.out] at h1
        exact h1)
      have HB3 := Lib.hid (HL2.out.setCell (p := ⟨w.heap.size, i * 4, none⟩) (Nat.le_refl _) (.string e.1))
      go_wp2_with fail
      go_roundw
      case rel => exact ⟨i + 1, by omega, by simp, HK3, HB3⟩
      case measure => simp [intOf]; omega
    · have d1 : decide ((i : Int) < (l.length : Int)) = false := decide_eq_false (by omega)
      obtain rfl : i = l.length := by omega
      rw [keysL_all] at HK
      go_upto_region 8 with (at_make; go_loud (refine wpList_make_full _ rfl (.tmp 27) (.tmp 27) 40 rfl w.heap.size 45 e0 (.agg #[.string ⟨#[]⟩, .int .i64 0]) 2 Tryz.underlying40 he0 ez0 ez1 .i64 .i64 _ _ l.length rfl rfl rfl rfl (by rw [ez2]; omega) (by unfold maxLen; omega) HB.out.size ?_; intro w4 hown hgrow))
      have hmk := made_rows (f := enC') enC'_len (by decide) noEnt l.length
      have HT4 := Lib.hid (fun p => show w4.ownsRow w.heap.size 45 2 (.slice (some ⟨wr.heap.size, 0, none⟩) l.length l.length) l.length (rowsC enC' (toldL l p 0)) from by
        have e : toldL l p 0 = List.replicate l.length noEnt := rfl
        rw [e, ← hmk]; exact hown)
      have HB4 := Lib.hid (HB.out.grown hgrow HB.out.size (fun j hj => by cases hj))
      have HK4 := Lib.hid (HK.out.kept hgrow (.inr (by intro q; cases q)))
      clear hown hgrow hmk HK HB HW
      generalize wr.heap.size = gt at HT4 ⊢
      have HIs := Lib.hid (show O.IsKeys w4 (some ⟨w.heap.size, 0, none⟩) (l.map keyOf) from .inr ⟨w.heap.size, 0, rfl, (HK4.out.lt _ rfl).2, fun k c hk j v hj => by
        rw [Nat.zero_add]
        exact B.owns_cell HK4.out ((rowsC_get keyC_len _ k j c hk (List.getElem?_eq_some_iff.1 hj).1).trans hj)⟩)
      have HSo := Lib.hid (O.osort_any 0 false false (l.map keyOf) (some ⟨w.heap.size, 0, none⟩) l.length w4 trivial HIs.out (by rw [List.length_map]; omega) (fun c hc => by
        obtain ⟨e, he, rfl⟩ := List.mem_map.1 hc
        exact HZ.out e he))
      rw [List.length_map] at HSo
      go_wp2_with fail
      refine HSo.out.mono ?_
      rintro x w5 ⟨vp, p, rfl, hso, hown, hb5⟩
      have HSp := Lib.hid hso
      have HP5 := Lib.hid hown
      have HT5 := Lib.hid (B.owns_to (HT4.out p) hb5)
      have HB5 := Lib.hid (HB4.out.trans (hb5.mono HB4.out.size))
      clear hso hown hb5 HSo HIs HK4 HT4 HB4
      have hpl : p.length = l.length := by
        have := HSp.out.length
        rwa [List.length_map] at this
      obtain ⟨po, pc, rfl⟩ := B.owns_form HP5.out
      generalize w4.heap.size = b6 at HP5
      go_wp2_with fail
      go_loopw [32] (ToldRel l p gt w.heap.size b6 (.slice po l.length pc) w) (fun v _ => l.length - (intOf v).toNat)
      case atStart => exact ⟨0, Nat.zero_le _, rfl, HT5, HP5, HB5⟩
      case round =>
        clear HT5 HP5 HB5 hi hlt d1
        obtain ⟨j, hj, rfl, HT, HP, HB⟩ := hrel
        have HW := Lib.hid (B.owns_to HH.out HB.out)
        by_cases hjl : j < l.length
        · have d1 : decide ((j : Int) < (l.length : Int)) = true := decide_eq_true (by omega)
          obtain ⟨k, hk⟩ : ∃ k, p[j]? = some k := ⟨_, List.getElem?_eq_getElem (by omega)⟩
          have hkl : k < l.length := by
            have := HSp.out.lt (List.mem_of_getElem? hk)
            rwa [List.length_map] at this
          have hel : l[k]? = some (atE l k) := by
            unfold atE
            rw [List.getD_eq_getElem?_getD, List.getElem?_eq_getElem hkl]; rfl
          obtain ⟨gp, c3, hv3, _, _⟩ := B.owns_some HP.out (by omega)
          simp only [Value.slice.injEq] at hv3
          obtain ⟨rfl, _, rfl⟩ := hv3
          obtain ⟨g, c2, hv, _, _⟩ := B.owns_some HW.out (by omega)
          simp only [Value.slice.injEq] at hv
          obtain ⟨rfl, _, rfl⟩ := hv
          have r0 : wr.cell? ⟨g, k * 2, none⟩ = some (.string (atE l k).1) := B.owns_cell HW.out ((rowsC_get enC'_len _ _ 0 _ hel (by decide)).trans rfl)
          have r1 : wr.cell? ⟨g, k * 2 + 1, none⟩ = some (.int .i64 (atE l k).2) := B.owns_cell HW.out ((rowsC_get enC'_len _ _ 1 _ hel (by decide)).trans rfl)
          have p0 : wr.cell? ⟨gp, j, none⟩ = some (.int .i64 (k : Int)) := B.owns_cell HP.out (by unfold O.ints; rw [List.getElem?_map, List.getElem?_map, hk]; rfl)
          have hjZ : j < (toldL l p j).length := by rw [toldL_len hpl hj]; exact hjl
          have HT2 := Lib.hid (show (wr.setCells gt (j * 2) [.string (atE l k).1, .int .i64 (atE l k).2]).ownsRow w.heap.size 45 2 (.slice (some ⟨gt, 0, none⟩) l.length l.length) l.length (rowsC enC' (toldL l p (j + 1))) from by
            have h1 := owns_pair HT.out hjZ (atE l k)
            rwa [toldL_next hpl hk] at h1)
          have hgt := (HT.out.lt gt rfl).1
          have HB2 := Lib.hid (show Below w.heap.size w (wr.setCells gt (j * 2) [.string (atE l k).1, .int .i64 (atE l k).2]) from (HB.out.setCell (p := ⟨gt, j * 2, none⟩) hgt _).setCell (p := ⟨gt, j * 2 + 1, none⟩) hgt _)
          have hne : gp ≠ gt := fun e => by
            subst e
            obtain ⟨cu, q1⟩ := B.owns_type HP.out rfl
            obtain ⟨cu', q2⟩ := B.owns_type HT.out rfl
            rw [q1] at q2
            simp at q2
          have HP2 := Lib.hid (show (wr.setCells gt (j * 2) [.string (atE l k).1, .int .i64 (atE l k).2]).ownsRow b6 3 1 (.slice (some ⟨gp, 0, none⟩) l.length pc) l.length (O.ints (p.map fun i : Nat => (i : Int))) from B.owns_at HP.out fun m hm => by
            obtain rfl : gp = m := Option.some.inj hm
            exact (heap_setCell_other _ _ _ _ hne).trans (heap_setCell_other _ _ _ _ hne))
          have HTh := Lib.hid (show wr.there gt (j * 2) 2 from fun m hm => by
            obtain ⟨z, hz⟩ : ∃ z, (toldL l p j)[j]? = some z := ⟨_, List.getElem?_eq_getElem hjZ⟩
            refine ⟨?_, B.owns_frozen HT.out _⟩
            have : m = 0 ∨ m = 1 := by omega
            rcases this with rfl | rfl
            · rw [B.owns_cell HT.out ((rowsC_get enC'_len _ _ 0 _ hz (by decide)).trans rfl)]; rfl
            · rw [B.owns_cell HT.out ((rowsC_get enC'_len _ _ 1 _ hz (by decide)).trans rfl)]; rfl)
          clear hk hel hjZ hgt hne
          go_wp2_with (refine wpList_store_mid rfl 45 (.tmp 43) (.tmp 42) rfl gt (j * 2) #[.string (atE l k).1, .int .i64 (atE l k).2] rfl rfl HTh.out sizeEnt (by simp [Value.oneCell']) ?_)
          go_roundw
          case rel => exact ⟨j + 1, by omega, by simp, HT2, HP2, HB2⟩
          case measure => simp [intOf]; omega
        · have d1 : decide ((j : Int) < (l.length : Int)) = false := decide_eq_false (by omega)
          obtain rfl : j = l.length := by omega
          rw [toldL_all hpl, told_sorted HD.out HSp.out] at HT
          have HLn := Lib.hid (show (sortE l).length = l.length from (sortE_perm l).length_eq)
          go_wp2_with fail
          go_ret
          exact ⟨_, rfl, by rw [HLn.out]; exact HT.out, HB.out⟩
end Go.Proofs.YtpikndeefiediaaGreatDoor.G
