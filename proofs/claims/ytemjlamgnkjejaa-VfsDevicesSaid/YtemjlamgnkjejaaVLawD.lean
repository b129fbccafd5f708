/-
  That the law VfsDevices returns true. Conditions: the changes that came in lie in memory.
-/
import Derived.Test.YtemjlamgnkjejaaVMade
import Derived.Test.YtemjlamgnkjejaaVCover
import Derived.Test.YtemjlamgnkjejaaVNode
import Derived.Test.YtemjlamgnkjejaaVDevM
import Derived.Deep.QuietTactic
import Derived.BigQuiet
set_option linter.unusedVariables false
namespace Go.Proofs.Ytemjlamgnkjejaa
open Go.RowKit

theorem has_devices {w0 w : World} {p : Nat} {M : List Nd} (h : Has w0 p M w) (hn : 0 < M.length) (hM : M.length ≤ 1000000) :
    Calls Try.prog 23 #[.pointer (some ⟨p, 0, none⟩)] w fun e w' => ∃ v, e = .returned v ∧ w'.ownsRow w.heap.size 3 1 v (devL M 0).length (ints (devL M 0)) ∧ Below w.heap.size w w' := by
  obtain ⟨h, rfl, rfl, H, hb, hf⟩ := h
  have hml : h.M.length = h.X.length := List.length_map ..
  exact devices_any h w H (by omega) (by omega)
theorem has_node {w0 w : World} {p : Nat} {M : List Nd} {i : Nat} {n : Nd} (h : Has w0 p M w) (hn : M[i]? = some n) :
    Calls Try.prog 19 #[.pointer (some ⟨p, 0, none⟩), .int .i64 (i : Int)] w fun e w' => e = .returned (.tuple #[knownV n, .int .i64 0]) ∧ Below w.heap.size w w' := by
  obtain ⟨h, rfl, hM, H, hb, hf⟩ := h
  obtain ⟨x, hx, hxn⟩ := fs_at (h := h) (k := i) (n := n) (by rw [hM]; exact hn)
  subst hxn
  exact node_get h i x w H hx

theorem devL_head {M : List Nd} (h : DevInv M) (hn : 0 < M.length) : ∃ t, devL M 0 = 0 :: t := by
  match M, h, hn with
  | x :: r, h, _ =>
    have e := (h 0 x rfl).2.2.1
    have e1 : x.ino = 1 := by rw [e]; rfl
    rw [devL, e1]
    exact ⟨_, rfl⟩
/-- How many of the first k nodes each device has. -/
def nextL (M : List Nd) (k D : Nat) : List Int := (List.range D).map fun (j : Nat) => cntD ((j : Int) + 1) (M.take k)

theorem next_len (M : List Nd) (k D : Nat) : (nextL M k D).length = D := by unfold nextL; rw [List.length_map, List.length_range]
theorem next_at {M : List Nd} {k D j : Nat} (hj : j < D) : (nextL M k D)[j]? = some (cntD ((j : Int) + 1) (M.take k)) := by
  unfold nextL
  rw [List.getElem?_map, List.getElem?_range hj]
  rfl
theorem ints_at {l : List Int} {j : Nat} {x : Int} (h : l[j]? = some x) : (ints l)[j]? = some (.int .i64 x) := by
  unfold ints
  rw [List.getElem?_map, h]
  rfl
theorem next_zero (M : List Nd) (D : Nat) : ints (nextL M 0 D) = List.replicate D (.int .i64 0) := by
  unfold nextL ints
  rw [List.map_map]
  apply List.ext_getElem (by simp)
  intro i h1 h2
  simp [cntD]
theorem next_more {M : List Nd} {k D j : Nat} {n : Nd} (hn : M[k]? = some n) (hj : n.dev = (j : Int) + 1) : (nextL M k D).set j (cntD n.dev (M.take k) + 1) = nextL M (k + 1) D := by
  have hl : (nextL M k D).set j (cntD n.dev (M.take k) + 1) = nextL M (k + 1) D := by
    apply List.ext_getElem (by rw [List.length_set, next_len, next_len])
    intro i h1 h2
    rw [next_len] at h2
    have e1 : (nextL M (k + 1) D)[i]? = some (cntD ((i : Int) + 1) (M.take (k + 1))) := next_at h2
    have e0 : (nextL M k D)[i]? = some (cntD ((i : Int) + 1) (M.take k)) := next_at h2
    have et : cntD ((i : Int) + 1) (M.take (k + 1)) = cntD ((i : Int) + 1) (M.take k) + (if n.dev = (i : Int) + 1 then 1 else 0) := by
      rw [List.take_add_one, hn, cntD_append]
      show _ + ((if n.dev = (i : Int) + 1 then 1 else 0) + cntD _ []) = _
      rw [cntD]
      omega
    have e2 : ((nextL M k D).set j (cntD n.dev (M.take k) + 1))[i]? = (nextL M (k + 1) D)[i]? := by
      rw [List.getElem?_set, e1, et]
      by_cases q : j = i
      · subst q
        rw [if_pos rfl, if_pos (by rw [next_len]; exact h2), if_pos hj, hj]
      · rw [if_neg q, e0, if_neg (by omega)]
        simp
    rw [List.getElem?_eq_getElem h1, List.getElem?_eq_getElem (by rw [next_len]; exact h2)] at e2
    exact Option.some.inj e2
  exact hl

theorem Has.butT {w0 w w' : World} {p b : Nat} {M : List Nd} (h : Has w0 p M w) (g : But b w w') {cs : Array Value} {T : TypeId} (hb : w.heap[b]? = some (.cells cs T (0, 0))) (h1 : T ≠ 71) (h2 : T ≠ 74) (h3 : T ≠ 60) (hB : w0.heap.size ≤ b) : Has w0 p M w' := by
  obtain ⟨h, e1, e2, H, hb1, hf⟩ := h
  refine ⟨h, e1, e2, H.at (fun k hk => g.block k (H.lt hk) ?_), g.below hb1 hB hb1.size, hf⟩
  rintro rfl
  obtain ⟨cur, T', hc, hT⟩ := foot_type H hk
  rw [hb] at hc
  simp only [Option.some.injEq, Obj.cells.injEq, and_true] at hc
  obtain ⟨_, rfl⟩ := hc
  rcases hT with e | e | e
  · exact h1 e
  · exact h2 e
  · exact h3 e
def LawDRel (w : World) (M : List Nd) (p D gd capd G : Nat) (v : Value) (wr : World) : Prop := ∃ k : Nat, k ≤ M.length ∧ v = .int .i64 (k : Int) ∧ Hid (Has w p M wr) ∧ Hid (wr.ownsRow 0 3 1 (.slice (some ⟨gd, 0, none⟩) D capd) D (ints (devL M 0))) ∧ Hid (wr.ownsRow 0 3 1 (.slice (some ⟨G, 0, none⟩) D D) D (ints (nextL M k D)))
theorem owns_zero {w : World} {b : Nat} {e : TypeId} {size n : Nat} {v : Value} {xs : List Value} (h : w.ownsRow b e size v n xs) : w.ownsRow 0 e size v n xs := by
  refine ⟨h.1, ?_⟩
  rcases h.2 with q | ⟨g, cap, cur, hv, hb, rest⟩
  · exact .inl q
  · exact .inr ⟨g, cap, cur, hv, Nat.zero_le _, rest⟩

set_option maxRecDepth 100000 in
set_option maxHeartbeats 8000000 in
theorem devs_any (cs : List Chg) (a : Option Addr) (cap : Nat) (w : World) (H : IsChgs w a cs) (hl : cs.length ≤ 9223372036854775807) (hz : ∀ c ∈ cs, (c.name.size ≤ 9223372036854775807 ∧ c.text.size ≤ 9223372036854775807) ∧ -9223372036854775808 ≤ c.n ∧ c.n ≤ 9223372036854775807) :
    Calls Try.prog 6 #[.slice a cs.length cap] w fun e w' => e = .returned (.bool true) ∧ Below w.heap.size w w' := by
  have HFw := Lib.hid (fun (W : World) (hb : Below w.heap.size w W) => few_any cs a cap 60 W (H.keep hb) hl (fun c hc => (hz c hc).1))
  have HMd := Lib.hid (fun (W : World) (hb : Below w.heap.size w W) (h4 : cs.length ≤ 400) (hf : FewL cs) => made_any cs a cap W (H.keep hb) h4 hf (fun c hc => (hz c hc).2))
  have HH := Lib.hid H
  clear H hz
  go_enter Try.func6, Try.ntmps6
  go_upto_region 1 with fail
  go_wp2_with fail
  refine (awake_any _).mono ?_
  rintro e w2 ⟨rfl, hb2⟩
  have HB2 := Lib.hid hb2
  clear hb2
  go_wp2_with fail
  refine (HFw.out _ HB2.out).mono ?_
  rintro e w3 ⟨b, rfl, hb, rfl⟩
  have HBb := Lib.hid hb
  clear hb
  cases b with
  | false =>
    go_wp2_with fail
    refine (awake_any _).mono ?_
    rintro e w4 ⟨rfl, hb4⟩
    have HB4 := Lib.hid (below_two HB2.out hb4)
    clear hb4
    go_wp2_with fail
    go_ret
    exact ⟨rfl, HB4.out⟩
  | true =>
    obtain ⟨f1, f2⟩ := HBb.out.1 rfl
    have HFL := Lib.hid f1
    clear f1
    have hl6 : cs.length ≤ 60 := by omega
    have HM := Lib.hid (HMd.out _ HB2.out (by omega) HFL.out)
    clear HMd HFw f2
    go_wp2_with fail
    refine HM.out.mono ?_
    rintro e w4 ⟨p, r, L, rfl, T4, l4⟩
    have HT4 := Lib.hid T4
    have HN4 := Lib.hid (rs_one T4.rs)
    have HB4 := Lib.hid (below_two HB2.out T4.fs.below)
    clear T4
    have HSM := Lib.hid (show Small (runM cs newM) cs.length from by
      have := runM_small cs newM 0 new_small
      rwa [Nat.zero_add] at this)
    have HDV := Lib.hid (runM_dev cs newM devInv_new)
    have HM0 := Lib.hid (runM_pos cs newM (by decide))
    generalize runM cs newM = M at HT4 HSM HDV HM0
    go_upto_region 4 with (refine wpList_store_row rfl 37 (.tmp 4) (.tmp 22) rfl w4.heap.size #[r.n, r.l, r.c, r.d, r.a, r.f] rfl rfl 37 nilsR (heap_alloc_new _ _) sizeRef rfl HN4.out ?_; rw [World.setRow_alloc_new])
    have HA5 := Lib.hid (show Below w4.heap.size w4 (w4.alloc (.cells #[r.n, r.l, r.c, r.d, r.a, r.f] 37)) from (Below.refl _ _).alloc (Nat.le_refl _) _)
    have HT5 := Lib.hid (HT4.out.keep HA5.out)
    have HB5 := Lib.hid (below_two HB4.out HA5.out)
    generalize w4.alloc (.cells #[r.n, r.l, r.c, r.d, r.a, r.f] 37) = w5 at HA5 HT5 HB5 ⊢
    go_upto_region 5 with (go_at_call 23; refine (has_devices HT5.out.fs HM0.out (by have := HSM.out.1; omega)).mono ?_; rintro e w6 ⟨v6, rfl, o6, b6⟩; have HO6 := Lib.hid o6; have HB6 := Lib.hid b6; clear o6 b6)
    obtain ⟨t, ht⟩ := devL_head HDV.out HM0.out
    obtain ⟨D, hD⟩ : ∃ D, (devL M 0).length = D := ⟨_, rfl⟩
    have HTD := Lib.hid ht
    have HDd := Lib.hid hD
    have hD0 : 0 < D := by rw [← hD, ht]; simp
    rw [hD] at HO6
    obtain ⟨gd, capd, rfl, _, _⟩ := owns_some HO6.out hD0
    have d0 : w6.cell? ⟨gd, 0, none⟩ = some (.int .i64 0) := owns_cell HO6.out (by rw [ht]; rfl)
    have e0 : decide ((D : Int) < 1) = false := decide_eq_false (by omega)
    have hDM : D ≤ 300 := by rw [← hD]; have := devL_len M 0; have := HSM.out.1; omega
    clear ht hD
    go_upto_region 7 with fail
    obtain ⟨i0, hi, hz0, hz1, hz2⟩ := info_parts infoInt
    have HMk := Lib.hid (show i0.bytes * D ≤ 281474976710656 from by rw [hz2]; omega)
    go_upto_region 8 with (refine wpList_make_full w6 rfl (.tmp 35) (.tmp 35) 34 rfl w6.heap.size 3 i0 (.int .i64 0) 1 Try.underlying34 hi hz0 hz1 .i64 .i64 (D : Int) (D : Int) D rfl rfl rfl rfl HMk.out (by unfold maxLen; omega) (Nat.le_refl _) ?_; intro w7 o7 g7; have HO7 := Lib.hid o7; have HG7 := Lib.hid g7; clear o7 g7)
    have HB7 := Lib.hid (grown_below (Below.refl w6.heap.size w6) HG7.out (fun j hj => by cases hj) (Nat.le_refl _))
    have HGd := Lib.hid (HO6.out.lt gd rfl).2
    have HWG := Lib.hid (show w.heap.size ≤ w6.heap.size from Nat.le_trans HB5.out.size HB6.out.size)
    have HR0 := Lib.hid (show LawDRel w M p D gd capd w6.heap.size (.int .i64 0) w7 from ⟨0, Nat.zero_le _, rfl, Lib.hid (((HT5.out.fs.keep HB6.out).keep HB7.out).from HB2.out), Lib.hid (owns_zero (owns_keep (owns_zero HO6.out) HB7.out)), Lib.hid (owns_zero (by
      have := HO7.out
      rw [show (Value.int IntKind.i64 0).cells = #[Value.int IntKind.i64 0] from rfl, toList_madeCells_one, Nat.mul_one, ← next_zero M D] at this
      exact this))⟩)
    generalize w6.heap.size = G at HGd HWG HR0 ⊢
    go_wp2_with fail
    go_loopw [7] (LawDRel w M p D gd capd G) (fun v _ => M.length - (intOf v).toNat)
    case atStart => exact HR0.out
    case round =>
      obtain ⟨k, hk, rfl, HF, HDr, HNr⟩ := hrel
      by_cases hlt : k < M.length
      · have d1 : decide ((k : Int) < (M.length : Int)) = true := decide_eq_true (by omega)
        obtain ⟨n, hn⟩ : ∃ n, M[k]? = some n := ⟨_, List.getElem?_eq_getElem hlt⟩
        obtain ⟨i1, i2, i3, i4⟩ := HDV.out k n hn
        rw [HDd.out] at i2
        obtain ⟨j, hj⟩ : ∃ j : Nat, n.dev = (j : Int) + 1 := ⟨(n.dev - 1).toNat, by omega⟩
        have hjD : j < D := by omega
        have HNn := Lib.hid hn
        have HI3 := Lib.hid i3
        have HI4 := Lib.hid i4
        have HJ := Lib.hid hj
        clear i1 i2 i3 i4 hn hj
        go_upto_region 12 with (first
          | (go_at_call 18; refine (has_count HF.out HM0.out).mono ?_; rintro e w8 ⟨rfl, hw⟩; subst hw)
          | (go_at_call 19; refine (has_node HF.out HNn.out).mono ?_; rintro e w8 ⟨rfl, b8⟩; have HB8 := Lib.hid b8; clear b8)
          | (refine wpList_store_row rfl 53 (.tmp 8) (.tmp 47) rfl w8.heap.size n.known.toArray rfl rfl _ _ (heap_alloc_new _ _) (by rw [sizeKnown]; rfl) rfl (known_one n) ?_; rw [World.setRow_alloc_new]))
        have HA9 := Lib.hid (show Below w8.heap.size w8 (w8.alloc (.cells n.known.toArray 53)) from (Below.refl _ _).alloc (Nat.le_refl _) _)
        have HX9 := Lib.hid (heap_alloc_new w8 (.cells n.known.toArray 53))
        have HF9 := Lib.hid ((HF.out.keep HB8.out).keep HA9.out)
        have HD9 := Lib.hid (owns_keep (owns_keep HDr.out HB8.out) HA9.out)
        have HN9 := Lib.hid (owns_keep (owns_keep HNr.out HB8.out) HA9.out)
        have HBG := Lib.hid (show G < w8.heap.size from ((owns_keep HNr.out HB8.out).lt G rfl).2)
        generalize w8.alloc (.cells n.known.toArray 53) = w9 at HA9 HX9 HF9 HD9 HN9 ⊢
        generalize w8.heap.size = B at HX9 HBG ⊢
        obtain ⟨q, hq, hq3⟩ : ∃ q : Nat, cntD n.dev (M.take k) = (q : Int) ∧ q ≤ 300 := by
          have hc := cntD_bd n.dev (M.take k)
          have hm := HSM.out.1
          rw [List.length_take] at hc
          exact ⟨(cntD n.dev (M.take k)).toNat, by omega, by omega⟩
        have c0 : w9.cell? ⟨B, 0, none⟩ = some (.int .i64 ((j : Int) + 1)) := by rw [cell_of_row _ _ _ _ _ _ HX9.out, ← HJ.out]; rfl
        have c1 : w9.cell? ⟨B, 1, none⟩ = some (.int .i64 (1 + (q : Int))) := by rw [cell_of_row _ _ _ _ _ _ HX9.out, ← hq, ← HI3.out]; rfl
        have g0 : w9.cell? ⟨G, j, none⟩ = some (.int .i64 (q : Int)) := owns_cell HN9.out (ints_at (by rw [next_at hjD, ← HJ.out, hq]))
        have gf : w9.frozen? ⟨G, j, none⟩ = false := owns_frozen HN9.out j
        have e1 : decide ((j : Int) + 1 < 1) = false := decide_eq_false (by omega)
        have e2 : decide ((D : Int) < (j : Int) + 1) = false := decide_eq_false (by omega)
        have HQ := Lib.hid hq
        clear hq
        go_upto_region 15 with fail
        have hnb : G ≠ B := by have := HBG.out; omega
        have hgd : gd ≠ G := by have := HGd.out; omega
        obtain ⟨P, hP⟩ : ∃ P, (devL M 0)[j]? = some P := ⟨_, List.getElem?_eq_getElem (by rw [HDd.out]; exact hjD)⟩
        have HBt := Lib.hid (but_setCell w9 G j (.int .i64 ((q : Int) + 1)))
        have HN10 := Lib.hid (owns_setCell HN9.out (j := j) (by unfold ints; rw [List.length_map, next_len]; exact hjD) (.int .i64 ((q : Int) + 1)))
        have HD10 := Lib.hid (owns_at HD9.out (fun k' hk' => by cases hk'; exact HBt.out.block _ ((HD9.out.lt _ rfl).2) hgd))
        have HX10 := Lib.hid ((HBt.out.block B (heap_lt HX9.out) (Ne.symm hnb)).trans HX9.out)
        have c0' : (w9.setCell ⟨G, j, none⟩ (.int .i64 ((q : Int) + 1))).cell? ⟨B, 0, none⟩ = some (.int .i64 ((j : Int) + 1)) := by rw [cell_of_row _ _ _ _ _ _ HX10.out, ← HJ.out]; rfl
        have c1' : (w9.setCell ⟨G, j, none⟩ (.int .i64 ((q : Int) + 1))).cell? ⟨B, 1, none⟩ = some (.int .i64 ((q : Int) + 1)) := by rw [cell_of_row _ _ _ _ _ _ HX10.out, show (q : Int) + 1 = 1 + (q : Int) by omega, ← HQ.out, ← HI3.out]; rfl
        have g0' : (w9.setCell ⟨G, j, none⟩ (.int .i64 ((q : Int) + 1))).cell? ⟨G, j, none⟩ = some (.int .i64 ((q : Int) + 1)) := owns_cell HN10.out (by rw [List.getElem?_set, if_pos rfl, if_pos (by unfold ints; rw [List.length_map, next_len]; exact hjD)])
        have p0' : (w9.setCell ⟨G, j, none⟩ (.int .i64 ((q : Int) + 1))).cell? ⟨gd, j, none⟩ = some (.int .i64 P) := owns_cell HD10.out (ints_at hP)
        have b0 : ((q : Int) + 1 != (q : Int) + 1) = false := by simp
        obtain ⟨bb, hb1, hb2⟩ : ∃ bb : Bool, ((q : Int) + 1 == 1) = bb ∧ (P == (k : Int)) = bb := by
          refine ⟨_, rfl, ?_⟩
          have h4 := HI4.out P (by rw [HJ.out, show ((j : Int) + 1 - 1).toNat = j by omega]; exact hP)
          rw [HI3.out, HQ.out] at h4
          by_cases hPk : P = (k : Int)
          · have := h4.2 hPk
            rw [beq_iff_eq.2 hPk, beq_iff_eq.2 (by omega)]
          · rw [beq_eq_false_iff_ne.2 hPk, beq_eq_false_iff_ne.2 (fun e => hPk (h4.1 (by omega)))]
        have b3 : (bb != bb) = false := by cases bb <;> rfl
        clear c0 c1 g0 gf
        have x1 : (j : Int) + 1 - 1 = (j : Int) := by omega
        have x2 : IntKind.i64.wrap ((j : Int) + 1 - 1) = (j : Int) := by rw [x1, IntKind.wrap_i64]; omega
        have x3 : (0 : Int) ≤ (j : Int) := by omega
        have x4 : (j : Int) < (D : Int) := by omega
        generalize hw10 : w9.setCell ⟨G, j, none⟩ (.int .i64 ((q : Int) + 1)) = w10 at HBt HN10 HD10 HX10 c0' c1' g0' p0' ⊢
        have HFx := Lib.hid (show Has w p M w10 from by
          obtain ⟨cur, hcur⟩ := owns_type HN9.out (k := G) rfl
          exact HF9.out.butT HBt.out hcur (by decide) (by decide) (by decide) (by have := HWG.out; omega))
        have HNx := Lib.hid (show w10.ownsRow 0 3 1 (.slice (some ⟨G, 0, none⟩) D D) D (ints (nextL M (k + 1) D)) from by
          rw [← next_more HNn.out HJ.out, HQ.out]
          unfold ints
          rw [List.map_set]
          exact HN10.out)
        have hm3 : M.length ≤ 300 := HSM.out.1
        go_quiet (fail)
        go_wp2_with fail
        go_roundw
        case rel => exact ⟨k + 1, by omega, by simp, Lib.hid (HFx.out.keep (below_drewN' (Below.refl _ _))), Lib.hid (owns_keep HD10.out (below_drewN' (Below.refl _ _))), Lib.hid (owns_keep HNx.out (below_drewN' (Below.refl _ _)))⟩
        case measure => simp [intOf]; omega
      · have d1 : decide ((k : Int) < (M.length : Int)) = false := decide_eq_false (by omega)
        go_wp2_with (go_at_call 18; refine (has_count HF.out HM0.out).mono ?_; rintro e w8 ⟨rfl, hw⟩; subst hw)
        go_ret
        exact ⟨rfl, HF.out.below⟩
end Go.Proofs.Ytemjlamgnkjejaa
