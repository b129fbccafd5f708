/-
  What the reference's Walk returns: the model's visits. Conditions: the reference's file system lies in memory; the node is one of it; at most 200000 visits, names of at most 90000 bytes.
-/
import Derived.Test.YtcjbnjoomgagjaaGreatDoorKGRefS
set_option linter.unusedVariables false
set_option linter.unusedSimpArgs false
namespace Go.Proofs.YtcjbnjoomgagjaaGreatDoor.G
open Go.RowKit
open List renaming setIfInBounds_toArray → qa, set_cons_zero → qb, set_cons_succ → qc
theorem tk {P : Program} {md : Region.Mode} {ops : Array Oper} {Q : Exit → Act → World → Prop} {S : World → Prop} {z i : Nat} {oi : Oper} {v : Value} {n : Nat} {up : Array Bool} {a : Act} {w : World} (hi : ops[i]? = some oi) (hy : YieldsIf P ops S oi v a) (hS : S w) (h : B.Till P md ops Q S z n (up.setIfInBounds i true) (a.put oi.dst v) w) (hs : Region.noSelect ops = true := by kernel_rfl) (hf : Region.free md ops up i = true := by kernel_rfl) (hr : (Region.ready md ops up).contains i = true := by kernel_rfl) (hz : B.waitsB md ops z i = true := by kernel_rfl) (hQ : ∀ c a w, Q (.panic c) (a.put oi.dst v) w → Q (.panic c) a w := by exact fun _ _ _ h => h) : B.Till P md ops Q S z (n + 1) up a w := B.Till.take hi hs hf hr hz hQ hy hS h
def fsC (r : V.Rv) : Array Value := #[r.n, r.l, r.c, r.d, r.a, r.f]
def visA (v : Vis) : Array Value := #[.int .i64 v.id, .int .i64 v.depth, .string v.name, .string v.base, .bool v.last, .bool v.over, .int .i64 v.err]
theorem over_valid {M : List V.Nd} (R : V.RI M) {i : Int} (h0 : 0 ≤ i) (h1 : i < (M.length : Int)) : 0 ≤ V.overI M i ∧ V.overI M i < (M.length : Int) := by
  obtain ⟨k, rfl⟩ := Int.eq_ofNat_of_zero_le h0
  have hk : k < M.length := by omega
  obtain ⟨n, hn⟩ : ∃ n, M[k]? = some n := ⟨_, List.getElem?_eq_getElem hk⟩
  have ha : V.overI M (k : Int) = n.over := by
    unfold V.overI V.atM
    rw [if_pos ⟨h0, h1⟩, show (k : Int).toNat = k from Int.toNat_natCast k, hn]
  rw [ha]
  rcases (R.cov k n hn).2 with q | ⟨_, j, m, q, hm, _⟩
  · omega
  · have := (List.getElem?_eq_some_iff.1 hm).1
    omega
structure RW (w : World) (r : V.Rv) (u g : Int) (v : Vis) (W : World) : Prop where
  low : Below w.heap.size w W
  f : W.heap[w.heap.size]? = some (.cells (fsC r) 35 (0, 0))
  c : W.heap[w.heap.size + 1]? = some (.cells #[.int .i64 u, .int .i64 g] 24 (0, 0))
  v : W.heap[w.heap.size + 2]? = some (.cells (visA v) 42 (0, 0))
theorem RW.ge {w W : World} {r : V.Rv} {u g : Int} {v : Vis} (h : RW w r u g v W) : w.heap.size + 3 ≤ W.heap.size := B.heap_lt h.v
theorem RW.keep {w W W' : World} {r : V.Rv} {u g : Int} {v : Vis} (h : RW w r u g v W) (hb : Below (w.heap.size + 3) W W') : RW w r u g v W' :=
  ⟨h.low.trans (hb.mono (by omega)), (hb.block _ (by omega)).trans h.f, (hb.block _ (by omega)).trans h.c, (hb.block _ (by omega)).trans h.v⟩
theorem RW.kept {w W W' : World} {r : V.Rv} {u g : Int} {v : Vis} (h : RW w r u g v W) (hb : Below W.heap.size W W') : RW w r u g v W' := h.keep (hb.mono h.ge)
theorem RW.set {w W : World} {r : V.Rv} {u g : Int} {v v' : Vis} {k : Nat} {x : Value} (h : RW w r u g v W) (hx : (visA v).setIfInBounds k x = visA v') : RW w r u g v' (W.setCell ⟨w.heap.size + 2, k, none⟩ x) :=
  ⟨h.low.setCell (by simp) x, by rw [heap_setCell_other _ _ _ _ (show w.heap.size ≠ w.heap.size + 2 by omega)]; exact h.f, by rw [heap_setCell_other _ _ _ _ (show w.heap.size + 1 ≠ w.heap.size + 2 by omega)]; exact h.c, by rw [heap_setCell_same _ _ _ _ _ _ h.v, hx]⟩
theorem rw_new (w : World) (r : V.Rv) (u g : Int) (v : Vis) : RW w r u g v (((w.alloc (.cells (fsC r) 35)).alloc (.cells #[.int .i64 u, .int .i64 g] 24)).alloc (.cells (visA v) 42)) := by
  obtain ⟨h1, h2, h3⟩ := two_new w (fsC r) #[.int .i64 u, .int .i64 g] 35 24
  have hs : ((w.alloc (.cells (fsC r) 35)).alloc (.cells #[.int .i64 u, .int .i64 g] 24)).heap.size = w.heap.size + 2 := by simp
  generalize (w.alloc (.cells (fsC r) 35)).alloc (.cells #[.int .i64 u, .int .i64 g] 24) = W at h1 h2 h3 hs ⊢
  have h4 : Below (w.heap.size + 2) W (W.alloc (.cells (visA v) 42)) := (Below.refl _ _).alloc (by omega) _
  have h5 := heap_alloc_new W (.cells (visA v) 42)
  rw [hs] at h5
  exact ⟨h3.alloc (by omega) _, (h4.block _ (by omega)).trans h1, (h4.block _ (by omega)).trans h2, h5⟩
theorem owns_one {W : World} {xs : List Value} {b : Nat} {e : TypeId} (size : Nat) (hs : xs.length = size) (hb : b ≤ W.heap.size) : (W.alloc (.cells xs.toArray e)).ownsRow b e size (.slice (some ⟨W.heap.size, 0, none⟩) 1 1) 1 xs :=
  ⟨by omega, .inr ⟨W.heap.size, 1, xs.toArray, rfl, hb, heap_alloc_new _ _, Nat.le_refl _, by decide, by simp [hs], by simp; exact List.take_of_length_le (by omega)⟩⟩
theorem rows_apart {w : World} {b b' n n' : Nat} {x y : Value} {xs ys : List Value} (h : w.ownsRow b 81 2 x n xs) (h' : w.ownsRow b' 42 7 y n' ys) {j : Nat} (hj : x.ownBlock = some j) : some j ≠ y.ownBlock := by
  intro e
  rcases h.2 with ⟨rfl, _⟩ | ⟨k, c, cur, rfl, _, hk, _⟩
  · cases hj
  · rcases h'.2 with ⟨rfl, _⟩ | ⟨k', c', cur', rfl, _, hk', _⟩
    · cases e
    · obtain rfl : k = j := Option.some.inj hj
      obtain rfl : k = k' := Option.some.inj e
      rw [hk] at hk'
      simp at hk'
variable {M : List V.Nd} {L : List V.It} {r : V.Rv} {u g most : Int} {all : Bool}
structure WPre (M : List V.Nd) (u g most : Int) (all : Bool) (v : Vis) : Prop where
  i0 : 0 ≤ v.id
  i1 : v.id < (M.length : Int)
  d0 : 0 ≤ v.depth
  d1 : v.depth ≤ 100
  len : (wkV (treeM M u g all) most v).length ≤ 200000
  name : ∀ x ∈ wkV (treeM M u g all) most v, x.name.size ≤ 90000
def WPost (M : List V.Nd) (r : V.Rv) (u g most : Int) (all : Bool) (v : Vis) (w : World) : Prop :=
  Calls Tryz.prog 16 #[V.rvV r, P.credV u g, visV v, .int .i64 most, .bool all] w fun e w' => ∃ o, e = .returned o ∧ w'.ownsRow w.heap.size 42 7 o (wkV (treeM M u g all) most v).length (rowsC visC (wkV (treeM M u g all) most v)) ∧ Below w.heap.size w w'
def visZ : Array Value := #[.int .i64 0, .int .i64 0, .string ⟨#[]⟩, .string ⟨#[]⟩, .bool false, .bool false, .int .i64 0]
theorem visA_one (v : Vis) : (visA v).all (·.oneCell') = true := by unfold visA; simp [Value.oneCell']
theorem sizeVisW : (Tryz.prog.info? 42).map (·.size) = some 7 := by kernel_rfl
def KidRel (w : World) (r : V.Rv) (T : Tr) (most u g : Int) (V0 : Vis) (l : List Ent) (lv : Value) (v11 v14 : Value) (wr : World) : Prop :=
  ∃ (j : Nat) (A : List Vis), v14 = .int .i64 (j : Int) ∧ j ≤ l.length ∧ Hid (A ++ kidsV (wkV T most) V0 (l.drop j) = kidsV (wkV T most) V0 l) ∧ Hid (wr.ownsRow (w.heap.size + 3) 42 7 v11 (A.length + 1) (rowsC visC (V0 :: A))) ∧ Hid (RW w r u g V0 wr) ∧ Hid (wr.ownsRow (w.heap.size + 3) 81 2 lv l.length (rowsC enC' l))
-- STEP
theorem shownL_len (hG : Good M) (i : Int) (all : Bool) : (shownL M all i).length ≤ 1000 := by
  have h1 : (shownL M all i).length = ((V.listL M i).filter (shownB all)).length := (sortE_perm _).length_eq
  have h2 := List.length_filter_le (shownB all) (V.listL M i)
  have h3 : (V.listL M i).length ≤ 1000 := by
    unfold V.listL
    cases ha : V.atM M i with
    | none => exact Nat.zero_le _
    | some n =>
      obtain ⟨k, _, hk⟩ := V.atM_some ha
      have := hG.ents n (List.mem_of_getElem? hk)
      dsimp only
      repeat' split
      all_goals first | exact Nat.zero_le _ | omega
  omega
set_option maxRecDepth 100000 in
set_option maxHeartbeats 16000000 in
theorem rwalk_step (v : Vis) (hR : V.Rel M L) (hG : Good M) (hL : L.length ≤ 1000000) (hP : WPre M u g most all v) (IH : v.depth < 100 → ∀ (v' : Vis) (W : World), V.Rs M L r W → v'.depth = v.depth + 1 → WPre M u g most all v' → WPost M r u g most all v' W) (w : World) (H : V.Rs M L r w) : WPost M r u g most all v w := by
  have HRel := Lib.hid hR
  have HG := Lib.hid hG
  have HP := Lib.hid hP
  have HI := Lib.hid IH
  have HH := Lib.hid H
  obtain ⟨k, hk⟩ := Int.eq_ofNat_of_zero_le (over_valid hG.ri hP.i0 hP.i1).1
  have hkM : k < M.length := by have := (over_valid hG.ri hP.i0 hP.i1).2; omega
  have HOv := Lib.hid (V.rover_any M L r v.id)
  rw [hk] at HOv
  obtain ⟨T, hT⟩ : ∃ T, treeM M u g all = T := ⟨_, rfl⟩
  have HT := Lib.hid hT
  have HTo := Lib.hid (show T.over v.id = (k : Int) from by rw [← hT]; exact hk)
  have HVa := Lib.hid (show atV T v = ⟨(k : Int), v.depth, v.name, v.base, v.last, v.over, v.err⟩ from by unfold atV; rw [HTo.out])
  have h0 := hP.d0
  have h1 := hP.d1
  have hM3 : M.length ≤ 300 := hG.few
  obtain ⟨gn, cn, al, cl, gc, cc, gd, cd, ga, ca, af, cf, hr⟩ := H.at6 hG.pos
  have HRn := Lib.hid (show r.n = .slice (some ⟨gn, 0, none⟩) M.length cn from by rw [hr])
  clear hR hG hP IH H hk hT hr
  unfold WPost
  rw [HT.out]
  unfold V.rvV P.credV visV
  go_enter Tryz.func16, Tryz.ntmps16
  go_upto_region 1 with fail
  have hw1 := rw_new w r u g v
  unfold fsC visA at hw1
  generalize ((w.alloc (.cells #[r.n, r.l, r.c, r.d, r.a, r.f] 35)).alloc (.cells #[.int .i64 u, .int .i64 g] 24)).alloc (.cells #[.int .i64 v.id, .int .i64 v.depth, .string v.name, .string v.base, .bool v.last, .bool v.over, .int .i64 v.err] 42) = w1 at hw1 ⊢
  have HW1 := Lib.hid hw1
  clear hw1
  have c0 : w1.cell? ⟨w.heap.size + 2, 0, none⟩ = some (.int .i64 v.id) := by rw [cell_of_row _ _ _ _ _ _ HW1.out.v]; rfl
  go_wp2_with (refine wpList_load_row rfl 35 (.tmp 5) rfl w.heap.size rfl 35 #[r.n, r.l, r.c, r.d, r.a, r.f] (0, 0) _ HW1.out.f Tryz.underlying35 rfl V.sizeRef ?_)
  refine (HOv.out w1 (HH.out.keep (HW1.out.low)) HRel.out HG.out.pos (by omega) hL).mono ?_
  rintro e w2 ⟨rfl, hb⟩
  have HW2 := Lib.hid (HW1.out.kept hb)
  clear hb c0 HOv HW1
  have c0 : w2.cell? ⟨w.heap.size + 2, 0, none⟩ = some (.int .i64 v.id) := by rw [cell_of_row _ _ _ _ _ _ HW2.out.v]; rfl
  have f0 : w2.frozen? ⟨w.heap.size + 2, 0, none⟩ = false := frozen_of_row _ _ _ _ _ HW2.out.v
  go_upto_region 2 with fail
  have HW3 := Lib.hid (show RW w r u g (atV T v) (w2.setCell ⟨w.heap.size + 2, 0, none⟩ (.int .i64 (k : Int))) from HW2.out.set (by rw [HVa.out]; rfl))
  clear c0 f0 HW2
  generalize w2.setCell ⟨w.heap.size + 2, 0, none⟩ (.int .i64 (k : Int)) = w3 at HW3 ⊢
  obtain ⟨V0, hV0⟩ : ∃ V0, atV T v = V0 := ⟨_, rfl⟩
  have HV0 := Lib.hid hV0
  have HV0i := Lib.hid (show V0.id = (k : Int) ∧ V0.depth = v.depth ∧ V0.name = v.name from by rw [← hV0, HVa.out]; exact ⟨rfl, rfl, rfl⟩)
  rw [hV0] at HW3
  clear hV0 HVa
  go_upto_region 3 with (refine wpList_load_row rfl 42 (.tmp 7) rfl (w.heap.size + 2) rfl 42 #[.int .i64 V0.id, .int .i64 V0.depth, .string V0.name, .string V0.base, .bool V0.last, .bool V0.over, .int .i64 V0.err] (0, 0) _ HW3.out.v Tryz.underlying42 rfl sizeVisW ?_)
  have HO4 := Lib.hid (show (w3.alloc (.cells (visC V0).toArray 42)).ownsRow (w.heap.size + 3) 42 7 (.slice (some ⟨w3.heap.size, 0, none⟩) 1 1) 1 (visC V0) from owns_one 7 rfl HW3.out.ge)
  have HW4 := Lib.hid (HW3.out.kept ((Below.refl w3.heap.size w3).alloc (Nat.le_refl _) (.cells (visC V0).toArray 42)))
  unfold visC at HO4 HW4
  generalize w3.alloc _ = w4 at HO4 HW4 ⊢
  generalize w3.heap.size = g4 at HO4 ⊢
  have HDp := Lib.hid (show ∀ b : Bool, b = (T.dir (T.over v.id) && deepB most v.depth) → (b = true → T.dir (T.over v.id) = true ∧ deepB most v.depth = true) ∧ (b = false → ¬ (T.dir (T.over v.id) = true ∧ deepB most v.depth = true)) from fun b hb => by
    rw [hb]; cases T.dir (T.over v.id) <;> cases deepB most v.depth <;> simp)
  have HKd := Lib.hid (show ∃ n : V.Nd, M[k]? = some n ∧ T.dir (T.over v.id) = decide (n.kind = 2) from by
    obtain ⟨n, hn⟩ : ∃ n, M[k]? = some n := ⟨_, List.getElem?_eq_getElem hkM⟩
    refine ⟨n, hn, ?_⟩
    rw [HTo.out, ← HT.out]
    show decide (V.kindM M (k : Int) = 2) = _
    have : V.kindM M (k : Int) = n.kind := by
      unfold V.kindM V.nvAt V.atM
      rw [if_pos ⟨by omega, by omega⟩, show (k : Int).toNat = k from Int.toNat_natCast k, hn]
      rfl
    rw [this])
  obtain ⟨n, hn, hnd⟩ := HKd.out
  have HNd := Lib.hid hnd
  have f0 : w4.cell? ⟨w.heap.size, 0, none⟩ = some (.slice (some ⟨gn, 0, none⟩) M.length cn) := by rw [cell_of_row _ _ _ _ _ _ HW4.out.f, ← HRn.out]; rfl
  have x0 : w4.cell? ⟨w.heap.size + 2, 0, none⟩ = some (.int .i64 (k : Int)) := by rw [cell_of_row _ _ _ _ _ _ HW4.out.v, ← HV0i.out.1]; rfl
  have x1 : w4.cell? ⟨w.heap.size + 2, 1, none⟩ = some (.int .i64 v.depth) := by rw [cell_of_row _ _ _ _ _ _ HW4.out.v, ← HV0i.out.2.1]; rfl
  have n2 : w4.cell? ⟨gn, k * 13 + 2, none⟩ = some (.int .i64 n.kind) := by
    have q := (HH.out.keep HW4.out.low).hn
    rw [HRn.out] at q
    exact V.owns_cell q ((V.bares_get M k 2 n hn (by decide)).trans rfl)
  clear hn hnd HKd
  go_cut [46] from 24 to 47 (fun a wx => a = .bool (!(T.dir (T.over v.id) && deepB most v.depth)) ∧ Hid (wx = w4))
  case first =>
    by_cases hk2 : n.kind = 2
    · have d2 : (n.kind != 2) = false := by rw [hk2]; rfl
      rw [decide_eq_true hk2] at HNd
      by_cases hm0 : 0 ≤ most
      · have d3 : decide (0 ≤ most) = true := decide_eq_true hm0
        by_cases hm1 : most ≤ v.depth
        · have d4 : decide (most ≤ v.depth) = true := decide_eq_true hm1
          go_wp2_with fail
          go_meet
          refine ⟨?_, Lib.hid rfl⟩
          have : deepB most v.depth = false := by unfold deepB; rw [decide_eq_false (by omega), decide_eq_false (show ¬ v.depth < most by omega)]; rfl
          rw [this]; simp
        · have d4 : decide (most ≤ v.depth) = false := decide_eq_false hm1
          have : deepB most v.depth = decide (v.depth < 100) := by unfold deepB; rw [decide_eq_true (show v.depth < most by omega), Bool.or_true, Bool.true_and]
          go_wp2_with fail
          go_meet
          refine ⟨?_, Lib.hid rfl⟩
          rw [this, HNd.out, Bool.true_and]
          by_cases hd : v.depth < 100
          · rw [decide_eq_true hd]; simp; omega
          · rw [decide_eq_false hd]; simp; omega
      · have d3 : decide (0 ≤ most) = false := decide_eq_false hm0
        have : deepB most v.depth = decide (v.depth < 100) := by unfold deepB; rw [decide_eq_true (show most < 0 by omega), Bool.true_or, Bool.true_and]
        go_wp2_with fail
        go_meet
        refine ⟨?_, Lib.hid rfl⟩
        rw [this, HNd.out, Bool.true_and]
        by_cases hd : v.depth < 100
        · rw [decide_eq_true hd]; simp; omega
        · rw [decide_eq_false hd]; simp; omega
    · have d2 : (n.kind != 2) = true := by rw [bne_iff_ne]; exact hk2
      rw [decide_eq_false hk2] at HNd
      go_wp2_with fail
      go_meet
      exact ⟨by rw [HNd.out]; rfl, Lib.hid rfl⟩
  case rest =>
    obtain ⟨rfl, hwx⟩ := hcut
    have e2 := hwx.out.symm
    subst e2
    clear hwx f0 x0 x1 n2 HNd
    cases hdp : (T.dir (T.over v.id) && deepB most v.depth) with
    | false =>
      have HLf := Lib.hid (show wkV T most v = [V0] from by rw [← HV0.out]; exact wk_leaf h0 h1 ((HDp.out _ hdp.symm).2 rfl))
      clear hdp
      go_wp2_with fail
      go_ret
      exact ⟨_, rfl, by rw [HLf.out, rowsC_one]; exact owns_lower HO4.out (by omega), HW4.out.low⟩
    | true =>
      obtain ⟨hdr, hdp2⟩ := (HDp.out _ hdp.symm).1 rfl
      have HDr := Lib.hid (show T.dir (T.over v.id) = true ∧ deepB most v.depth = true from ⟨hdr, hdp2⟩)
      have hd100 : v.depth < 100 := by
        unfold deepB at hdp2
        rw [Bool.and_eq_true, decide_eq_true_eq] at hdp2
        exact hdp2.2
      clear hdp hdr hdp2 HDp
      have HSw := Lib.hid (rshown_any u g (k : Int) all w4 (HH.out.keep HW4.out.low) HRel.out HG.out hL)
      have HTs := Lib.hid (show T.shown (T.over v.id) = (shownE M u g (k : Int), shownL M all (k : Int)) from by rw [HTo.out, ← HT.out]; rfl)
      have HEn := Lib.hid (show ∀ e ∈ shownL M all (k : Int), e.1.size ≤ 255 ∧ 0 ≤ e.2 ∧ e.2 < (M.length : Int) from fun e he => by
        obtain ⟨q1, q2, q3⟩ := shown_good HG.out.ri all (k : Int) he
        exact ⟨(V.goodB_parts q1).2.1, q2, q3⟩)
      have HLl := Lib.hid (shownL_len HG.out (k : Int) all)
      generalize shownE M u g (k : Int) = er at HSw HTs
      generalize shownL M all (k : Int) = l at HSw HTs HEn HLl
      unfold V.rvV P.credV at HSw
      have x0 : w4.cell? ⟨w.heap.size + 2, 0, none⟩ = some (.int .i64 (k : Int)) := by rw [cell_of_row _ _ _ _ _ _ HW4.out.v, ← HV0i.out.1]; rfl
      have u0 : w4.cell? ⟨w.heap.size + 1, 0, none⟩ = some (.int .i64 u) := by rw [cell_of_row _ _ _ _ _ _ HW4.out.c]; rfl
      have u1 : w4.cell? ⟨w.heap.size + 1, 1, none⟩ = some (.int .i64 g) := by rw [cell_of_row _ _ _ _ _ _ HW4.out.c]; rfl
      go_wp2_with (refine wpList_load_row rfl 35 (.tmp 5) rfl w.heap.size rfl 35 #[r.n, r.l, r.c, r.d, r.a, r.f] (0, 0) _ HW4.out.f Tryz.underlying35 rfl V.sizeRef ?_)
      refine HSw.out.mono ?_
      rintro e w5 ⟨lv, rfl, ho5, hn5, hb5⟩
      have HW5 := Lib.hid (HW4.out.kept hb5)
      have HO5 := Lib.hid (show w5.ownsRow (w.heap.size + 3) 42 7 (.slice (some ⟨g4, 0, none⟩) 1 1) 1 (visC V0) from B.owns_to HO4.out hb5)
      have HE5 := Lib.hid (fun q => owns_lower (ho5 q) HW4.out.ge)
      clear x0 u0 u1 HSw hb5 ho5 hn5
      obtain ⟨i0, hi0, hz0, hz1, hz2⟩ := info_parts infoVis
      by_cases her : er = 0
      · have d8 : (er != 0) = false := by rw [her]; rfl
        have HWk := Lib.hid (show wkV T most v = V0 :: (kidsV (wkV T most) V0 l ++ [overV V0]) from by rw [← HV0.out]; have q := wk_dir h0 h1 HDr.out (by rw [HTs.out]; exact her); rw [HTs.out] at q; exact q)
        have HE6 := Lib.hid (HE5.out her)
        clear HE5
        obtain ⟨lo, lc, hlv⟩ := B.owns_form HE6.out
        subst hlv
        have HKl := Lib.hid (show (kidsV (wkV T most) V0 l).length + 2 ≤ 200000 from by
          have q := HP.out.len
          rw [HT.out, HWk.out, List.length_cons, List.length_append, List.length_singleton] at q
          omega)
        have HNm := Lib.hid (show ∀ x ∈ kidsV (wkV T most) V0 l, x.name.size ≤ 90000 from fun x hx => HP.out.name x (by rw [HT.out, HWk.out]; exact List.mem_cons_of_mem _ (List.mem_append_left _ hx)))
        have hvn : v.name.size ≤ 90000 := by
          have q := HP.out.name V0 (by rw [HT.out, HWk.out]; exact List.mem_cons_self)
          rw [HV0i.out.2.2] at q
          exact q
        have hl1 : l.length ≤ 1000 := HLl.out
        go_wp2_with fail
        go_loopw [11, 14] (KidRel w r T most u g V0 l (.slice lo l.length lc)) (fun _ v _ => l.length - (intOf v).toNat)
        case atStart => exact ⟨0, [], rfl, Nat.zero_le _, Lib.hid rfl, Lib.hid (by rw [rowsC_one]; exact HO5.out), HW5, HE6⟩
        case round =>
          obtain ⟨j, A, rfl, hj, HAk, HOr, HWr, HEr⟩ := hrel
          by_cases hjl : j < l.length
          · have dj : decide ((j : Int) < (l.length : Int)) = true := decide_eq_true (by omega)
            obtain ⟨e, he⟩ : ∃ e, l[j]? = some e := ⟨_, List.getElem?_eq_getElem hjl⟩
            have HEm := Lib.hid (HEn.out e (List.mem_of_getElem? he))
            obtain ⟨ge, c2, hv, _, _⟩ := B.owns_some HEr.out (by omega)
            simp only [Value.slice.injEq] at hv
            obtain ⟨rfl, _, rfl⟩ := hv
            have hesz : e.1.size ≤ 255 := HEm.out.1
            obtain ⟨bl, hbl⟩ : ∃ bl, (l.drop (j + 1)).isEmpty = bl := ⟨_, rfl⟩
            have dbl : ((j : Int) == (l.length : Int) - 1) = bl := by
              rw [← hbl, Bool.eq_iff_iff, beq_iff_eq, List.isEmpty_iff, List.drop_eq_nil_iff]
              omega
            have HKe := Lib.hid (show A ++ (wkV T most (kidV V0 e bl) ++ kidsV (wkV T most) V0 (l.drop (j + 1))) = kidsV (wkV T most) V0 l from by
              rw [← HAk.out]
              have q : l.drop j = e :: l.drop (j + 1) := by
                rw [List.drop_eq_getElem_cons hjl]
                congr 1
                have q2 := List.getElem?_eq_getElem hjl
                rw [he] at q2
                exact (Option.some.inj q2).symm
              rw [q, kidsV, hbl])
            have HCr := Lib.hid (show ∀ W, Below wr.heap.size wr W → W.cell? ⟨ge, j * 2, none⟩ = some (.string e.1) ∧ W.cell? ⟨ge, j * 2 + 1, none⟩ = some (.int .i64 e.2) ∧ W.cell? ⟨w.heap.size + 2, 1, none⟩ = some (.int .i64 V0.depth) from fun W hb => by
              have q := B.owns_to HEr.out hb
              refine ⟨B.owns_cell q ((rowsC_get enC'_len _ _ 0 _ he (by decide)).trans rfl), B.owns_cell q ((rowsC_get enC'_len _ _ 1 _ he (by decide)).trans rfl), ?_⟩
              rw [cell_of_row _ _ _ _ _ _ (HWr.out.kept hb).v]; rfl)
            have HVd := Lib.hid (show V0.depth = v.depth from HV0i.out.2.1)
            have hvb0 : 0 ≤ V0.depth := by rw [HVd.out]; exact h0
            have hvb1 : V0.depth ≤ 100 := by rw [HVd.out]; exact h1
            have hvn0 : V0.name.size ≤ 90000 := by rw [HV0i.out.2.2]; exact hvn
            have hsl : (slashN V0.name).size ≤ 90001 := by
              unfold slashN
              split
              · omega
              · rw [ByteArray.size_append, show (⟨#[47]⟩ : ByteArray).size = 1 from rfl]; omega
            have v2 : wr.cell? ⟨w.heap.size + 2, 2, none⟩ = some (.string V0.name) := by rw [cell_of_row _ _ _ _ _ _ HWr.out.v]; rfl
            clear he hbl
            obtain ⟨ov, oc, hv⟩ := B.owns_form HOr.out
            subst hv
            go_upto_region 13 with fail
            obtain ⟨sl, hsl1⟩ : ∃ sl, decide (V0.name.data.toList.getLast? = some 47) = sl := ⟨_, rfl⟩
            have HSn := Lib.hid (show slashN V0.name = if sl = true then V0.name else V0.name ++ ⟨#[47]⟩ from by rw [← hsl1]; unfold slashN; simp)
            go_cut [82] from 73 to 83 (fun a wx => a = .bool (!sl) ∧ Hid (wx = wr))
            case first =>
              by_cases hz : V0.name.size = 0
              · have z3 : V0.name.toList = [] := by rw [Go.Lib.toList_data, Array.size_eq_zero_iff.1 (show V0.name.data.size = 0 from hz)]
                have z4 : V0.name.toList.isEmpty = true := by rw [z3]; rfl
                have z5 : sl = false := by
                  rw [← hsl1, ← Go.Lib.toList_data, z3]; rfl
                go_wp2_with fail
                go_meet
                exact ⟨by rw [z5]; rfl, Lib.hid rfl⟩
              · have z4 : V0.name.toList.isEmpty = false := by
                  rw [List.isEmpty_eq_false_iff, Go.Lib.toList_data]
                  intro q
                  exact hz (by have := congrArg List.length q; simpa using this)
                have z6 : V0.name.size - 1 < V0.name.size := by omega
                have z7 : ((((V0.name[V0.name.size - 1]'z6).toNat : Nat) : Int) != 47) = !sl := by
                  rw [← hsl1, List.getLast?_eq_getElem?, show V0.name.data.toList.length - 1 = V0.name.size - 1 by simp, B.list_at z6]
                  generalize V0.name[V0.name.size - 1]'z6 = c
                  by_cases hc : c = 47
                  · rw [hc]; rfl
                  · rw [decide_eq_false (fun q => hc (Option.some.inj q)), Bool.not_false, bne_iff_ne]
                    intro h
                    exact hc (UInt8.toNat_inj.1 (by have : c.toNat = 47 := by omega
                                                    rw [this]; rfl))
                go_wp2_with fail
                go_meet
                exact ⟨rfl, Lib.hid rfl⟩
            case rest =>
              obtain ⟨rfl, hwx⟩ := hcut
              have e2 := hwx.out.symm
              subst e2
              clear hwx
              apply_assumption
              go_cut [15] from 83 to 85 (fun a wx => a = .string (slashN V0.name) ∧ Hid (wx = wr))
              case first =>
                cases sl with
                | true =>
                  go_wp2_with fail
                  go_meet
                  exact ⟨by rw [HSn.out]; rfl, Lib.hid rfl⟩
                | false =>
                  go_wp2_with fail
                  go_meet
                  exact ⟨by rw [HSn.out]; rfl, Lib.hid rfl⟩
              case rest =>
              obtain ⟨rfl, hwx⟩ := hcut
              have e2 := hwx.out.symm
              subst e2
              clear hwx v2 hsl1 HSn
              have hss : (slashN V0.name ++ e.1).size ≤ 90256 := by rw [ByteArray.size_append]; omega
              have hss1 : (slashN V0.name).size + e.1.size ≤ 9223372036854775807 := by omega
              have hwa : IntKind.i64.wrap (V0.depth + 1) = V0.depth + 1 := IntWalk.i64_in _ (by omega)
              have hwb : IntKind.i64.wrap ((l.length : Int) - 1) = (l.length : Int) - 1 := IntWalk.i64_in _ (by omega)
              go_upto_region 15 with fail
              refine B.Till.region (z := 27) (S := fun w' => Below wr.heap.size wr w') (by kernel_rfl) ((Below.refl _ _).drew) (fun hHeld => ?_)
              refine tk (i := 0) (oi := { dst := some 85, op := Op.move (Operand.tmp 12), type := 45, pos := "ref.go:58", after := #[], guard := none }) (v := .slice (some ⟨ge, 0, none⟩) l.length lc) rfl (Or.inl ⟨by rfl, fun w0 hS0 => ?_⟩) (by assumption) ?_
              · go_simp
              try simp only [Act.put, qa, qb, qc]
              refine tk (i := 1) (oi := { dst := some 86, op := Op.move (Operand.tmp 14), type := 3, pos := "ref.go:58", after := #[], guard := none }) (v := .int .i64 (j : Int)) rfl (Or.inl ⟨by rfl, fun w0 hS0 => ?_⟩) (by assumption) ?_
              · go_simp
              try simp only [Act.put, qa, qb, qc]
              refine tk (i := 2) (oi := { dst := some 87, op := Op.indexAddr 45 (Operand.tmp 85) (Operand.tmp 86), type := 0, pos := "ref.go:58", after := #[{ on := 0, ground := Ground.data }, { on := 1, ground := Ground.data }], guard := none }) (v := .pointer (some ⟨ge, j * 2, none⟩)) rfl (Or.inl ⟨by rfl, fun w0 hS0 => ?_⟩) (by assumption) ?_
              · go_simp
              try simp only [Act.put, qa, qb, qc]
              refine tk (i := 3) (oi := { dst := some 88, op := Op.fieldAddr 81 (Operand.tmp 87) 1, type := 0, pos := "ref.go:58", after := #[{ on := 2, ground := Ground.data }], guard := none }) (v := .pointer (some ⟨ge, j * 2 + 1, none⟩)) rfl (Or.inl ⟨by rfl, fun w0 hS0 => ?_⟩) (by assumption) ?_
              · go_simp
              try simp only [Act.put, qa, qb, qc]
              refine tk (i := 4) (oi := { dst := some 89, op := Op.load 3 (Operand.tmp 88), type := 3, pos := "ref.go:58", after := #[{ on := 3, ground := Ground.data }], guard := none }) (v := .int .i64 e.2) rfl (Or.inl ⟨by rfl, fun w0 hS0 => ?_⟩) (by assumption) ?_
              · obtain ⟨e0, e1, v1⟩ := HCr.out _ hS0; go_simp
              try simp only [Act.put, qa, qb, qc]
              refine tk (i := 5) (oi := { dst := some 90, op := Op.fieldAddr 42 (Operand.tmp 7) 1, type := 0, pos := "ref.go:58", after := #[], guard := none }) (v := .pointer (some ⟨w.heap.size + 2, 1, none⟩)) rfl (Or.inl ⟨by rfl, fun w0 hS0 => ?_⟩) (by assumption) ?_
              · go_simp
              try simp only [Act.put, qa, qb, qc]
              refine tk (i := 6) (oi := { dst := some 91, op := Op.load 3 (Operand.tmp 90), type := 3, pos := "ref.go:58", after := #[{ on := 5, ground := Ground.data }], guard := none }) (v := .int .i64 V0.depth) rfl (Or.inl ⟨by rfl, fun w0 hS0 => ?_⟩) (by assumption) ?_
              · obtain ⟨e0, e1, v1⟩ := HCr.out _ hS0; go_simp
              try simp only [Act.put, qa, qb, qc]
              refine tk (i := 7) (oi := { dst := some 92, op := Op.binOp BinOp.add 3 (Operand.tmp 91) (Operand.const (Value.int IntKind.i64 1)) 3, type := 3, pos := "ref.go:58", after := #[{ on := 6, ground := Ground.data }], guard := none }) (v := .int .i64 (V0.depth + 1)) rfl (Or.inl ⟨by rfl, fun w0 hS0 => ?_⟩) (by assumption) ?_
              · go_simp
              try simp only [Act.put, qa, qb, qc]
              refine tk (i := 8) (oi := { dst := some 93, op := Op.move (Operand.tmp 15), type := 9, pos := "ref.go:58", after := #[], guard := none }) (v := .string (slashN V0.name)) rfl (Or.inl ⟨by rfl, fun w0 hS0 => ?_⟩) (by assumption) ?_
              · go_simp
              try simp only [Act.put, qa, qb, qc]
              refine tk (i := 9) (oi := { dst := some 94, op := Op.move (Operand.tmp 12), type := 45, pos := "ref.go:58", after := #[], guard := none }) (v := .slice (some ⟨ge, 0, none⟩) l.length lc) rfl (Or.inl ⟨by rfl, fun w0 hS0 => ?_⟩) (by assumption) ?_
              · go_simp
              try simp only [Act.put, qa, qb, qc]
              refine tk (i := 10) (oi := { dst := some 95, op := Op.move (Operand.tmp 14), type := 3, pos := "ref.go:58", after := #[], guard := none }) (v := .int .i64 (j : Int)) rfl (Or.inl ⟨by rfl, fun w0 hS0 => ?_⟩) (by assumption) ?_
              · go_simp
              try simp only [Act.put, qa, qb, qc]
              refine tk (i := 11) (oi := { dst := some 96, op := Op.indexAddr 45 (Operand.tmp 94) (Operand.tmp 95), type := 0, pos := "ref.go:58", after := #[{ on := 9, ground := Ground.data }, { on := 10, ground := Ground.data }], guard := none }) (v := .pointer (some ⟨ge, j * 2, none⟩)) rfl (Or.inl ⟨by rfl, fun w0 hS0 => ?_⟩) (by assumption) ?_
              · go_simp
              try simp only [Act.put, qa, qb, qc]
              refine tk (i := 12) (oi := { dst := some 97, op := Op.fieldAddr 81 (Operand.tmp 96) 0, type := 0, pos := "ref.go:58", after := #[{ on := 11, ground := Ground.data }], guard := none }) (v := .pointer (some ⟨ge, j * 2, none⟩)) rfl (Or.inl ⟨by rfl, fun w0 hS0 => ?_⟩) (by assumption) ?_
              · go_simp
              try simp only [Act.put, qa, qb, qc]
              refine tk (i := 13) (oi := { dst := some 98, op := Op.load 9 (Operand.tmp 97), type := 9, pos := "ref.go:58", after := #[{ on := 12, ground := Ground.data }], guard := none }) (v := .string e.1) rfl (Or.inl ⟨by rfl, fun w0 hS0 => ?_⟩) (by assumption) ?_
              · obtain ⟨e0, e1, v1⟩ := HCr.out _ hS0; go_simp
              try simp only [Act.put, qa, qb, qc]
              refine tk (i := 14) (oi := { dst := some 99, op := Op.binOp BinOp.add 9 (Operand.tmp 93) (Operand.tmp 98) 9, type := 9, pos := "ref.go:58", after := #[{ on := 8, ground := Ground.data }, { on := 13, ground := Ground.data }], guard := none }) (v := .string (slashN V0.name ++ e.1)) rfl (Or.inl ⟨by rfl, fun w0 hS0 => ?_⟩) (by assumption) ?_
              · go_simp
              try simp only [Act.put, qa, qb, qc]
              refine tk (i := 15) (oi := { dst := some 100, op := Op.move (Operand.tmp 12), type := 45, pos := "ref.go:58", after := #[], guard := none }) (v := .slice (some ⟨ge, 0, none⟩) l.length lc) rfl (Or.inl ⟨by rfl, fun w0 hS0 => ?_⟩) (by assumption) ?_
              · go_simp
              try simp only [Act.put, qa, qb, qc]
              refine tk (i := 16) (oi := { dst := some 101, op := Op.move (Operand.tmp 14), type := 3, pos := "ref.go:58", after := #[], guard := none }) (v := .int .i64 (j : Int)) rfl (Or.inl ⟨by rfl, fun w0 hS0 => ?_⟩) (by assumption) ?_
              · go_simp
              try simp only [Act.put, qa, qb, qc]
              refine tk (i := 17) (oi := { dst := some 102, op := Op.indexAddr 45 (Operand.tmp 100) (Operand.tmp 101), type := 0, pos := "ref.go:58", after := #[{ on := 15, ground := Ground.data }, { on := 16, ground := Ground.data }], guard := none }) (v := .pointer (some ⟨ge, j * 2, none⟩)) rfl (Or.inl ⟨by rfl, fun w0 hS0 => ?_⟩) (by assumption) ?_
              · go_simp
              try simp only [Act.put, qa, qb, qc]
              refine tk (i := 18) (oi := { dst := some 103, op := Op.fieldAddr 81 (Operand.tmp 102) 0, type := 0, pos := "ref.go:58", after := #[{ on := 17, ground := Ground.data }], guard := none }) (v := .pointer (some ⟨ge, j * 2, none⟩)) rfl (Or.inl ⟨by rfl, fun w0 hS0 => ?_⟩) (by assumption) ?_
              · go_simp
              try simp only [Act.put, qa, qb, qc]
              refine tk (i := 19) (oi := { dst := some 104, op := Op.load 9 (Operand.tmp 103), type := 9, pos := "ref.go:58", after := #[{ on := 18, ground := Ground.data }], guard := none }) (v := .string e.1) rfl (Or.inl ⟨by rfl, fun w0 hS0 => ?_⟩) (by assumption) ?_
              · obtain ⟨e0, e1, v1⟩ := HCr.out _ hS0; go_simp
              try simp only [Act.put, qa, qb, qc]
              refine tk (i := 20) (oi := { dst := some 105, op := Op.move (Operand.tmp 14), type := 3, pos := "ref.go:58", after := #[], guard := none }) (v := .int .i64 (j : Int)) rfl (Or.inl ⟨by rfl, fun w0 hS0 => ?_⟩) (by assumption) ?_
              · go_simp
              try simp only [Act.put, qa, qb, qc]
              refine tk (i := 21) (oi := { dst := some 106, op := Op.move (Operand.tmp 12), type := 45, pos := "ref.go:58", after := #[], guard := none }) (v := .slice (some ⟨ge, 0, none⟩) l.length lc) rfl (Or.inl ⟨by rfl, fun w0 hS0 => ?_⟩) (by assumption) ?_
              · go_simp
              try simp only [Act.put, qa, qb, qc]
              refine tk (i := 22) (oi := { dst := some 107, op := Op.call { callee := Callee.builtin Builtin.len, args := #[Operand.tmp 106], argTypes := #[45] }, type := 3, pos := "ref.go:58", after := #[{ on := 21, ground := Ground.data }], guard := none }) (v := .int .i64 (l.length : Int)) rfl (Or.inl ⟨by rfl, fun w0 hS0 => ?_⟩) (by assumption) ?_
              · go_simp
              try simp only [Act.put, qa, qb, qc]
              refine tk (i := 23) (oi := { dst := some 108, op := Op.binOp BinOp.sub 3 (Operand.tmp 107) (Operand.const (Value.int IntKind.i64 1)) 3, type := 3, pos := "ref.go:58", after := #[{ on := 22, ground := Ground.data }], guard := none }) (v := .int .i64 ((l.length : Int) - 1)) rfl (Or.inl ⟨by rfl, fun w0 hS0 => ?_⟩) (by assumption) ?_
              · go_simp
              try simp only [Act.put, qa, qb, qc]
              refine tk (i := 24) (oi := { dst := some 109, op := Op.binOp BinOp.eql 3 (Operand.tmp 105) (Operand.tmp 108) 3, type := 4, pos := "ref.go:58", after := #[{ on := 20, ground := Ground.data }, { on := 23, ground := Ground.data }], guard := none }) (v := .bool bl) rfl (Or.inl ⟨by rfl, fun w0 hS0 => ?_⟩) (by assumption) ?_
              · go_simp
              try simp only [Act.put, qa, qb, qc]
              refine tk (i := 25) (oi := { dst := some 110, op := Op.build 42 #[(0, Operand.tmp 89), (1, Operand.tmp 92), (2, Operand.tmp 99), (3, Operand.tmp 104), (4, Operand.tmp 109)], type := 42, pos := "ref.go:58", after := #[{ on := 4, ground := Ground.data }, { on := 7, ground := Ground.data }, { on := 14, ground := Ground.data }, { on := 19, ground := Ground.data }, { on := 24, ground := Ground.data }], guard := none }) (v := .agg #[.int .i64 e.2, .int .i64 (V0.depth + 1), .string (slashN V0.name ++ e.1), .string e.1, .bool bl, .bool false, .int .i64 0]) rfl (Or.inl ⟨by rfl, fun w0 hS0 => ?_⟩) (by assumption) ?_
              · go_simp
              try simp only [Act.put, qa, qb, qc]
              refine B.Till.next (i := 26) (o := { dst := some 16, op := Op.alloc 42, type := 0, pos := "ref.go:58", after := #[], guard := none }) (by kernel_rfl) rfl (fun K hK => ?_)
              go_simp
              refine hK.out _ _ (fun _ => hHeld.alloc hHeld.size _) ?_
              clear hK K
              try simp only [Act.put, qa, qb, qc]
              refine B.Till.next (i := 27) (o := { dst := none, op := Op.store 42 (Operand.tmp 16) (Operand.tmp 110), type := 0, pos := "ref.go:58", after := #[{ on := 26, ground := Ground.data }, { on := 25, ground := Ground.data }, { on := 0, ground := Ground.phase }, { on := 1, ground := Ground.phase }, { on := 2, ground := Ground.phase }, { on := 3, ground := Ground.phase }, { on := 4, ground := Ground.phase }, { on := 5, ground := Ground.phase }, { on := 6, ground := Ground.phase }, { on := 7, ground := Ground.phase }, { on := 8, ground := Ground.phase }, { on := 9, ground := Ground.phase }, { on := 10, ground := Ground.phase }, { on := 11, ground := Ground.phase }, { on := 12, ground := Ground.phase }, { on := 13, ground := Ground.phase }, { on := 14, ground := Ground.phase }, { on := 15, ground := Ground.phase }, { on := 16, ground := Ground.phase }, { on := 17, ground := Ground.phase }, { on := 18, ground := Ground.phase }, { on := 19, ground := Ground.phase }, { on := 20, ground := Ground.phase }, { on := 21, ground := Ground.phase }, { on := 22, ground := Ground.phase }, { on := 23, ground := Ground.phase }, { on := 24, ground := Ground.phase }, { on := 25, ground := Ground.phase }, { on := 26, ground := Ground.phase }], guard := none }) (by kernel_rfl) rfl (fun K hK => ?_)
              refine step_store_row rfl 42 (.tmp 16) (.tmp 110) rfl wr.heap.size #[.int .i64 e.2, .int .i64 (V0.depth + 1), .string (slashN V0.name ++ e.1), .string e.1, .bool bl, .bool false, .int .i64 0] rfl rfl 42 visZ (heap_alloc_new wr.drew (.cells visZ 42)) sizeVisW rfl (visA_one (kidV V0 e bl)) ?_
              have hh8 := setRow_heap (wr.drew.alloc (.cells visZ 42)) _ _ #[.int .i64 e.2, .int .i64 (V0.depth + 1), .string (slashN V0.name ++ e.1), .string e.1, .bool bl, .bool false, .int .i64 0] _ _ (heap_alloc_new wr.drew (.cells visZ 42))
              have hb8 := below_setRow (hHeld.alloc hHeld.size (.cells visZ 42)) (Nat.le_refl _) #[.int .i64 e.2, .int .i64 (V0.depth + 1), .string (slashN V0.name ++ e.1), .string e.1, .bool bl, .bool false, .int .i64 0]
              refine hK.out _ _ (fun q => absurd rfl q) ?_
              clear hK K
              try simp only [Act.put, qa, qb, qc]
              refine B.Till.done (by kernel_rfl) ?_
              have HX8 := Lib.hid (show ((wr.alloc (.cells visZ 42)).drew.setRow wr.heap.size (visA (kidV V0 e bl))).heap[wr.heap.size]? = some (.cells (visA (kidV V0 e bl)) 42 (0, 0)) from hh8)
              have HB8 := Lib.hid (show Below wr.heap.size wr ((wr.alloc (.cells visZ 42)).drew.setRow wr.heap.size (visA (kidV V0 e bl))) from hb8)
              clear hh8 hb8 hwa hwb hss hss1 dbl HCr
              unfold visZ visA kidV at HX8 HB8
              dsimp only at HX8 HB8
              go_upto_region 16 with fail
              generalize (wr.alloc _).drew.setRow wr.heap.size _ = w6 at HX8 HB8 ⊢
              have HW6 := Lib.hid (HWr.out.kept HB8.out)
              have HO6 := Lib.hid (B.owns_to HOr.out HB8.out)
              have HE6 := Lib.hid (B.owns_to HEr.out HB8.out)
              generalize wr.heap.size = b8 at HX8 ⊢
              have hKl := HKl.out
              have HKi := Lib.hid (HI.out hd100 (kidV V0 e bl) w6 (HH.out.keep HW6.out.low) (by show V0.depth + 1 = _; rw [HVd.out]) (by
                have hm : ∀ x ∈ wkV T most (kidV V0 e bl), x ∈ kidsV (wkV T most) V0 l := fun x hx => by
                  rw [← HKe.out]
                  exact List.mem_append_right _ (List.mem_append_left _ hx)
                refine ⟨HEm.out.2.1, HEm.out.2.2, ?_, ?_, ?_, ?_⟩
                · show 0 ≤ V0.depth + 1; omega
                · show V0.depth + 1 ≤ 100; rw [HVd.out]; omega
                · rw [HT.out]
                  have q := congrArg List.length HKe.out
                  rw [List.length_append, List.length_append] at q
                  omega
                · intro x hx
                  rw [HT.out] at hx
                  exact HNm.out x (hm x hx)))
              have hlk : A.length + (wkV T most (kidV V0 e bl)).length + 2 ≤ 200000 := by
                have q := congrArg List.length HKe.out
                rw [List.length_append, List.length_append] at q
                omega
              unfold WPost at HKi
              rw [HT.out] at HKi
              unfold V.rvV P.credV visV kidV at HKi
              have u0 : w6.cell? ⟨w.heap.size + 1, 0, none⟩ = some (.int .i64 u) := by rw [cell_of_row _ _ _ _ _ _ HW6.out.c]; rfl
              have u1 : w6.cell? ⟨w.heap.size + 1, 1, none⟩ = some (.int .i64 g) := by rw [cell_of_row _ _ _ _ _ _ HW6.out.c]; rfl
              go_wp2_with (first
                | (refine wpList_load_row rfl 35 (.tmp 5) rfl w.heap.size rfl 35 #[r.n, r.l, r.c, r.d, r.a, r.f] (0, 0) _ HW6.out.f Tryz.underlying35 rfl V.sizeRef ?_)
                | (refine wpList_load_row rfl 42 (.tmp 16) rfl b8 rfl 42 _ (0, 0) _ HX8.out Tryz.underlying42 rfl sizeVisW ?_))
              refine HKi.out.mono ?_
              rintro e' w7 ⟨o, rfl, ho, hb⟩
              have HW7 := Lib.hid (HW6.out.kept hb)
              have HO7 := Lib.hid (B.owns_to HO6.out hb)
              have HE7 := Lib.hid (B.owns_to HE6.out hb)
              have HU7 := Lib.hid (owns_lower ho (Nat.zero_le _))
              have HKf := Lib.hid (show A ++ (wkV T most (kidV V0 e bl) ++ kidsV (wkV T most) V0 (l.drop (j + 1))) = kidsV (wkV T most) V0 l from HKe.out)
              clear ho hb HKi HX8 u0 u1 HO6 HE6 HW6 HKe
              have e9 : wkV T most ⟨e.2, V0.depth + 1, slashN V0.name ++ e.1, e.1, bl, false, 0⟩ = wkV T most (kidV V0 e bl) := rfl
              rw [e9] at HU7
              generalize wkV T most (kidV V0 e bl) = K at *
              obtain ⟨oa, oc2, ho2⟩ := B.owns_form HU7.out
              subst ho2
              go_wp2_with (at_builtin; go_loud (refine B.wpList_append_row rfl (.tmp 111) (.tmp 117) 38 rfl (w.heap.size + 3) 42 i0 _ 7 64 Tryz.underlying38 hi0 hz0 hz1 hz2 rfl (by decide) (.slice ov (A.length + 1) oc) (A.length + 1) (rowsC visC (V0 :: A)) rfl HO7.out (.slice oa K.length oc2) K.length (rowsC visC K) rfl HU7.out (visCs_one _) (by unfold maxLen; omega) (by omega) HW7.out.ge ?_; intro v2 w9 hown hgrow; have H9 := Lib.hid hown; have HB9 := Lib.hid ((Below.refl (w.heap.size + 3) w7).grown hgrow HW7.out.ge (fun j hj => (HO7.out.lt j hj).1)); have HE9 := Lib.hid (B.owns_at HE7.out fun jj hj => hgrow.block _ (HE7.out.lt jj hj).2 (rows_apart HE7.out HO7.out hj)); clear hown hgrow))
              have HOz := Lib.hid (show w9.ownsRow (w.heap.size + 3) 42 7 v2 ((A ++ K).length + 1) (rowsC visC (V0 :: (A ++ K))) from by
                have e1 : V0 :: (A ++ K) = (V0 :: A) ++ K := rfl
                rw [e1, rowsC_app, List.length_append, show A.length + K.length + 1 = A.length + 1 + K.length by omega]
                exact H9.out)
              go_roundw
              case rel => exact ⟨j + 1, A ++ K, by simp, by omega, Lib.hid (by rw [List.append_assoc]; exact HKf.out), HOz, Lib.hid (HW7.out.keep HB9.out), HE9⟩
              case measure => simp [intOf]; omega
          · have dj : decide ((j : Int) < (l.length : Int)) = false := decide_eq_false (by omega)
            obtain rfl : j = l.length := by omega
            have HAe := Lib.hid (show A = kidsV (wkV T most) V0 l from by
              have q := HAk.out
              rw [List.drop_length] at q
              rw [← q]
              exact (List.append_nil A).symm)
            obtain ⟨ov, oc, hv⟩ := B.owns_form HOr.out
            subst hv
            have c5 : wr.cell? ⟨w.heap.size + 2, 5, none⟩ = some (.bool V0.over) := by rw [cell_of_row _ _ _ _ _ _ HWr.out.v]; rfl
            have f5 : wr.frozen? ⟨w.heap.size + 2, 5, none⟩ = false := frozen_of_row _ _ _ _ _ HWr.out.v
            go_upto_region 18 with fail
            have HW6 := Lib.hid (show RW w r u g (overV V0) (wr.setCell ⟨w.heap.size + 2, 5, none⟩ (.bool true)) from HWr.out.set rfl)
            have HO6 := Lib.hid (show (wr.setCell ⟨w.heap.size + 2, 5, none⟩ (.bool true)).ownsRow (w.heap.size + 3) 42 7 (.slice ov (A.length + 1) oc) (A.length + 1) (rowsC visC (V0 :: A)) from B.owns_at HOr.out fun j hj => heap_setCell_other _ _ _ _ (show j ≠ w.heap.size + 2 from by have := (HOr.out.lt j hj).1; omega))
            clear c5 f5 HWr HOr
            generalize wr.setCell ⟨w.heap.size + 2, 5, none⟩ (.bool true) = w6 at HW6 HO6 ⊢
            have hAl : A.length + 2 ≤ 200000 := by have := HKl.out; rw [← HAe.out] at this; exact this
            go_wp2_with (first
              | (refine wpList_load_row rfl 42 (.tmp 7) rfl (w.heap.size + 2) rfl 42 #[.int .i64 (overV V0).id, .int .i64 (overV V0).depth, .string (overV V0).name, .string (overV V0).base, .bool (overV V0).last, .bool (overV V0).over, .int .i64 (overV V0).err] (0, 0) _ HW6.out.v Tryz.underlying42 rfl sizeVisW ?_)
              | (at_builtin; go_loud (refine B.wpList_append_row rfl (.tmp 120) (.tmp 122) 38 rfl (w.heap.size + 3) 42 i0 _ 7 64 Tryz.underlying38 hi0 hz0 hz1 hz2 rfl (by decide) (.slice ov (A.length + 1) oc) (A.length + 1) (rowsC visC (V0 :: A)) rfl (HO6.out.alloc _) (.slice (some ⟨w6.heap.size, 0, none⟩) 1 1) 1 (visC (overV V0)) rfl (V.owns_single 7 rfl) (visC_one _) (by unfold maxLen; omega) (by omega) (Nat.le_trans HW6.out.ge (by simp)) ?_; intro v2 w7 hown hgrow; have H7 := Lib.hid hown; have HB7 := Lib.hid ((HW6.out.low.alloc (Nat.le_trans (by omega) HW6.out.ge) _).grown hgrow (Nat.le_trans (Nat.le_trans (by omega) HW6.out.ge) (by simp)) (fun j hj => Nat.le_trans (by omega) (HO6.out.lt j hj).1)); clear hown hgrow)))
            go_ret
            refine ⟨_, rfl, ?_, HB7.out⟩
            rw [HWk.out, ← HAe.out]
            have e1 : V0 :: (A ++ [overV V0]) = (V0 :: A) ++ [overV V0] := rfl
            rw [e1, rowsC_app, rowsC_one, List.length_append, List.length_cons, List.length_singleton]
            exact owns_lower H7.out (by omega)
      · have d8 : (er != 0) = true := by rw [bne_iff_ne]; exact her
        have HWk := Lib.hid (show wkV T most v = [V0, errV V0 er] from by rw [← HV0.out]; have q := wk_err h0 h1 HDr.out (by rw [HTs.out]; exact her); rw [HTs.out] at q; exact q)
        clear her HE5
        have c6 : w5.cell? ⟨w.heap.size + 2, 6, none⟩ = some (.int .i64 V0.err) := by rw [cell_of_row _ _ _ _ _ _ HW5.out.v]; rfl
        have f6 : w5.frozen? ⟨w.heap.size + 2, 6, none⟩ = false := frozen_of_row _ _ _ _ _ HW5.out.v
        go_upto_region 8 with fail
        have HW6 := Lib.hid (show RW w r u g (errV V0 er) (w5.setCell ⟨w.heap.size + 2, 6, none⟩ (.int .i64 er)) from HW5.out.set rfl)
        have HO6 := Lib.hid (show (w5.setCell ⟨w.heap.size + 2, 6, none⟩ (.int .i64 er)).ownsRow (w.heap.size + 3) 42 7 (.slice (some ⟨g4, 0, none⟩) 1 1) 1 (visC V0) from B.owns_at HO5.out fun j hj => heap_setCell_other _ _ _ _ (show j ≠ w.heap.size + 2 from by have := (HO5.out.lt j hj).1; omega))
        clear c6 f6 HW5 HO5
        generalize w5.setCell ⟨w.heap.size + 2, 6, none⟩ (.int .i64 er) = w6 at HW6 HO6 ⊢
        go_wp2_with (first
          | (refine wpList_load_row rfl 42 (.tmp 7) rfl (w.heap.size + 2) rfl 42 #[.int .i64 (errV V0 er).id, .int .i64 (errV V0 er).depth, .string (errV V0 er).name, .string (errV V0 er).base, .bool (errV V0 er).last, .bool (errV V0 er).over, .int .i64 (errV V0 er).err] (0, 0) _ HW6.out.v Tryz.underlying42 rfl sizeVisW ?_)
          | (at_builtin; go_loud (refine B.wpList_append_row rfl (.tmp 61) (.tmp 63) 38 rfl (w.heap.size + 3) 42 i0 _ 7 64 Tryz.underlying38 hi0 hz0 hz1 hz2 rfl (by decide) (.slice (some ⟨g4, 0, none⟩) 1 1) 1 (visC V0) rfl (HO6.out.alloc _) (.slice (some ⟨w6.heap.size, 0, none⟩) 1 1) 1 (visC (errV V0 er)) rfl (V.owns_single 7 rfl) (visC_one _) (by decide) (by decide) (Nat.le_trans HW6.out.ge (by simp)) ?_; intro v2 w7 hown hgrow; have H7 := Lib.hid hown; have HB7 := Lib.hid ((HW6.out.low.alloc (Nat.le_trans (by omega) HW6.out.ge) _).grown hgrow (Nat.le_trans (Nat.le_trans (by omega) HW6.out.ge) (by simp)) (fun j hj => Nat.le_trans (by omega) (HO6.out.lt j hj).1)); clear hown hgrow)))
        go_ret
        refine ⟨_, rfl, ?_, HB7.out⟩
        rw [HWk.out]
        have e1 : rowsC visC [V0, errV V0 er] = visC V0 ++ visC (errV V0 er) := by rw [rowsC, rowsC_one]
        rw [e1]
        exact owns_lower H7.out (by omega)
theorem rwalk_deep (hR : V.Rel M L) (hG : Good M) (hL : L.length ≤ 1000000) : ∀ (n : Nat) (v : Vis) (w : World), v.depth + (n : Int) = 100 → WPre M u g most all v → V.Rs M L r w → WPost M r u g most all v w
  | 0, v, w, hd, hP, H => rwalk_step v hR hG hL hP (fun q => by omega) w H
  | n + 1, v, w, hd, hP, H => rwalk_step v hR hG hL hP (fun _ v' W H' hd' hP' => rwalk_deep hR hG hL n v' W (by omega) hP' H') w H
theorem rwalk_any (v : Vis) (w : World) (hR : V.Rel M L) (hG : Good M) (hL : L.length ≤ 1000000) (hP : WPre M u g most all v) (H : V.Rs M L r w) : WPost M r u g most all v w := by
  have h0 := hP.d0
  have h1 := hP.d1
  exact rwalk_deep hR hG hL (100 - v.depth).toNat v w (by omega) hP H
end Go.Proofs.YtcjbnjoomgagjaaGreatDoor.G
