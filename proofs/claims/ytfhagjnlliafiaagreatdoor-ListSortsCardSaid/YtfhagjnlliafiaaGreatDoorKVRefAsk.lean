/-
  A node's links are what is counted over the entries.
  Conditions: each fact's own.
-/
import Derived.Test.YtfhagjnlliafiaaGreatDoorKVArg
import Derived.Test.YtfhagjnlliafiaaGreatDoorKHWalkM
set_option linter.unusedVariables false
set_option maxHeartbeats 4000000
set_option maxRecDepth 100000
namespace Go.Proofs.YtfhagjnlliafiaaGreatDoor.V
open Go.RowKit
end Go.Proofs.YtfhagjnlliafiaaGreatDoor.V
namespace Go.Proofs.YtfhagjnlliafiaaGreatDoor.V
open Go.RowKit
def entEq (a b : ByteArray × Int) : Bool := a.1.toList == b.1.toList && a.2 == b.2
def entsEq : List (ByteArray × Int) → List (ByteArray × Int) → Bool
  | [], [] => true
  | x :: r, y :: t => entEq x y && entsEq r t
  | _, _ => false
theorem entsEq_len : ∀ {a b : List (ByteArray × Int)}, entsEq a b = true → a.length = b.length
  | [], [], _ => rfl
  | x :: r, y :: t, h => by
    rw [entsEq, Bool.and_eq_true] at h
    rw [List.length_cons, List.length_cons, entsEq_len h.2]
  | [], y :: t, h => by simp [entsEq] at h
  | x :: r, [], h => by simp [entsEq] at h
theorem entsEq_self : ∀ a : List (ByteArray × Int), entsEq a a = true
  | [] => rfl
  | x :: r => by rw [entsEq, entsEq_self r]; simp [entEq]
theorem entsEq_no : ∀ {a b : List (ByteArray × Int)} {k : Nat} {x y : ByteArray × Int}, a[k]? = some x → b[k]? = some y → entEq x y = false → entsEq a b = false
  | x :: r, y :: t, 0, _, _, h, h', e => by
    simp at h h'
    subst h h'
    rw [entsEq, e]
    rfl
  | x :: r, y :: t, k + 1, _, _, h, h', e => by
    rw [entsEq, entsEq_no (a := r) (b := t) (k := k) (by simpa using h) (by simpa using h') e]
    simp
  | [], _, k, _, _, h, _, _ => by simp at h
  | x :: r, [], k, _, _, _, h, _ => by simp at h
theorem entsEq_all : ∀ {a b : List (ByteArray × Int)}, a.length = b.length → (∀ (k : Nat) (x y : ByteArray × Int), a[k]? = some x → b[k]? = some y → entEq x y = true) → entsEq a b = true
  | [], [], _, _ => rfl
  | x :: r, y :: t, h, e => by
    rw [entsEq, e 0 x y rfl rfl, entsEq_all (by simpa using h) (fun k u v hu hv => e (k + 1) u v (by simpa using hu) (by simpa using hv))]
    rfl
  | [], y :: t, h, _ => by simp at h
  | x :: r, [], h, _ => by simp at h
theorem run_neq_ent (W : World) (s t : ByteArray) (i j : Int) : (binOp .neq 46 (.agg #[.string s, .int .i64 i]) (.agg #[.string t, .int .i64 j])).run Tryz.prog W = .ok (.bool (!(entEq (s, i) (t, j)))) W := by
  simp [go_sem, entEq]
  by_cases h1 : s.toList = t.toList <;> by_cases h2 : i = j <;> simp [h1, h2]
theorem drewN_two (w : World) (a b : Nat) : (w.drewN a).drewN b = w.drewN (a + b) := by
  unfold World.drewN
  simp [Nat.add_assoc]
def EqRel (a b : List (ByteArray × Int)) (w : World) (v : Value) (wr : World) : Prop := ∃ k : Nat, k ≤ a.length ∧ v = .int .i64 (k : Int) ∧ Hid (∃ q, wr = w.drewN q) ∧ Hid (∀ j x y, j < k → a[j]? = some x → b[j]? = some y → entEq x y = true)
end Go.Proofs.YtfhagjnlliafiaaGreatDoor.V
namespace Go.Proofs.YtfhagjnlliafiaaGreatDoor.V
open Go.RowKit
theorem Rs.at6 {M : List Nd} {L : List It} {v : Rv} {w : World} (H : Rs M L v w) (hn : 0 < M.length) :
    ∃ gn cn al cl gc cc gd cd ga ca af cf, v = ⟨.slice (some ⟨gn, 0, none⟩) M.length cn, .slice al L.length cl, .slice (some ⟨gc, 0, none⟩) M.length cc, .slice (some ⟨gd, 0, none⟩) M.length cd, .slice (some ⟨ga, 0, none⟩) M.length ca, .slice af (devL M 0).length cf⟩ := by
  obtain ⟨an, cn, al, cl, ac, cc, ad, cd, aa, ca, af, cf, rfl⟩ := H.forms
  obtain ⟨gn, cn', e1, _, _⟩ := owns_some H.hn hn
  obtain ⟨gc, cc', e2, _, _⟩ := owns_some H.hc hn
  obtain ⟨gd, cd', e3, _, _⟩ := owns_some H.hd hn
  obtain ⟨ga, ca', e4, _, _⟩ := owns_some H.ha hn
  simp only [Value.slice.injEq, true_and] at e1 e2 e3 e4
  obtain ⟨rfl, rfl⟩ := e1
  obtain ⟨rfl, rfl⟩ := e2
  obtain ⟨rfl, rfl⟩ := e3
  obtain ⟨rfl, rfl⟩ := e4
  exact ⟨gn, cn, al, cl, gc, cc, gd, cd, ga, ca, af, cf, rfl⟩
theorem R_over {M : List Nd} {L : List It} (R : Rel M L) {j : Nat} {x : Nd} (hx : M[j]? = some x) : 0 ≤ x.over := R.over x (List.mem_of_getElem? hx)
structure FIn (W : World) (v : Rv) (w : World) : Prop where
  box : w.heap[W.heap.size]? = some (.cells #[v.n, v.l, v.c, v.d, v.a, v.f] 36)
  below : Below W.heap.size W w
theorem FIn.begin (W : World) (v : Rv) : FIn W v (W.alloc (.cells #[v.n, v.l, v.c, v.d, v.a, v.f] 36)) :=
  ⟨heap_alloc_new _ _, (Below.refl _ _).alloc (Nat.le_refl _) _⟩
theorem FIn.keep {W : World} {v : Rv} {w w' : World} (h : FIn W v w) (hb : Below w.heap.size w w') : FIn W v w' := ⟨box_keep2 h.box hb, below_two h.below hb⟩
theorem FIn.cells {W : World} {v : Rv} {w : World} (h : FIn W v w) :
    w.cell? ⟨W.heap.size, 0, none⟩ = some v.n ∧ w.cell? ⟨W.heap.size, 1, none⟩ = some v.l ∧ w.cell? ⟨W.heap.size, 2, none⟩ = some v.c ∧ w.cell? ⟨W.heap.size, 3, none⟩ = some v.d ∧ w.cell? ⟨W.heap.size, 4, none⟩ = some v.a ∧ w.cell? ⟨W.heap.size, 5, none⟩ = some v.f := by
  refine ⟨?_, ?_, ?_, ?_, ?_, ?_⟩ <;> (rw [cell_of_row _ _ _ _ _ _ h.box]; rfl)
theorem rover_any (M : List Nd) (L : List It) (v : Rv) (i : Int) (w : World) (H : Rs M L v w) (R : Rel M L) (hn : 0 < M.length) (hM : M.length ≤ 1000000) (hL : L.length ≤ 1000000) :
    Calls Tryz.prog 21 #[rvV v, .int .i64 i] w fun e w' => e = .returned (.int .i64 (overI M i)) ∧ Below w.heap.size w w' := by
  have HH := Lib.hid H
  obtain ⟨gn, cn, al, cl, gc, cc, gd, cd, ga, ca, af, cf, rfl⟩ := H.at6 hn
  have HR := Lib.hid R
  have HF0 := Lib.hid (FIn.begin w ⟨.slice (some ⟨gn, 0, none⟩) M.length cn, .slice al L.length cl, .slice (some ⟨gc, 0, none⟩) M.length cc, .slice (some ⟨gd, 0, none⟩) M.length cd, .slice (some ⟨ga, 0, none⟩) M.length ca, .slice af (devL M 0).length cf⟩)
  clear H R
  cases hto : atM M i with
  | none =>
    have hno := Lib.hid (atM_none_dec hto)
    have HA := Lib.hid (show overI M i = i from by unfold overI; rw [hto])
    clear hto
    unfold rvV
    go_enter Tryz.func21, Tryz.ntmps21
    go_upto_region 1 with fail
    have hf := HF0.out
    dsimp only at hf
    generalize w.alloc (.cells #[.slice (some ⟨gn, 0, none⟩) M.length cn, .slice al L.length cl, .slice (some ⟨gc, 0, none⟩) M.length cc, .slice (some ⟨gd, 0, none⟩) M.length cd, .slice (some ⟨ga, 0, none⟩) M.length ca, .slice af (devL M 0).length cf] 36) = w2 at hf ⊢
    have HF := Lib.hid hf
    obtain ⟨s0, s1, s2, s3, s4, s5⟩ := hf.cells
    clear hf HF0
    go_wp2_with fail
    refine (refHas_any M L _ i _ (HH.out.keep HF.out.below)).mono ?_
    rintro e w3 ⟨rfl, hb3⟩
    rw [hno.out]
    have HB3 := Lib.hid (below_two HF.out.below hb3)
    clear hb3
    go_wp2_with fail
    go_ret
    exact ⟨ret_int HA.out.symm, HB3.out⟩
  | some x =>
    have hyes := Lib.hid (atM_some_dec hto)
    obtain ⟨j, hj, hx⟩ := atM_some hto
    subst hj
    have hjl : j < M.length := (List.getElem?_eq_some_iff.1 hx).1
    have HA := Lib.hid (show overI M (j : Int) = x.over from by unfold overI; rw [hto])
    have h0 := R_over HR.out hx
    have HX := Lib.hid hx
    clear hto hx
    unfold rvV
    go_enter Tryz.func21, Tryz.ntmps21
    go_upto_region 1 with fail
    have hf := HF0.out
    dsimp only at hf
    generalize w.alloc (.cells #[.slice (some ⟨gn, 0, none⟩) M.length cn, .slice al L.length cl, .slice (some ⟨gc, 0, none⟩) M.length cc, .slice (some ⟨gd, 0, none⟩) M.length cd, .slice (some ⟨ga, 0, none⟩) M.length ca, .slice af (devL M 0).length cf] 36) = w2 at hf ⊢
    have HF := Lib.hid hf
    obtain ⟨s0, s1, s2, s3, s4, s5⟩ := hf.cells
    clear hf HF0
    go_wp2_with fail
    refine (refHas_any M L _ (j : Int) _ (HH.out.keep HF.out.below)).mono ?_
    rintro e w3 ⟨rfl, hb3⟩
    rw [hyes.out]
    have HF3 := Lib.hid (HF.out.keep hb3)
    clear hb3 HF s0 s1 s2 s3 s4 s5
    obtain ⟨s0, s1, s2, s3, s4, s5⟩ := HF3.out.cells
    have HS3 := Lib.hid (HH.out.keep HF3.out.below)
    have n2 : w3.cell? ⟨gc, j, none⟩ = some (.int .i64 (cov j x)) := HS3.out.cov_cell HX.out
    unfold cov at n2
    by_cases ho : x.over = (j : Int)
    · rw [if_pos ho] at n2
      go_wp2_with fail
      go_ret
      exact ⟨ret_int (by rw [HA.out, ho]), HF3.out.below⟩
    · rw [if_neg ho] at n2
      have d1 : decide ((0 : Int) ≤ x.over) = true := decide_eq_true h0
      clear ho
      go_wp2_with fail
      go_ret
      exact ⟨ret_int HA.out.symm, HF3.out.below⟩
theorem rsame_any (u v : Value) (a b : List (ByteArray × Int)) (w : World) (Ha : w.ownsRow 0 46 2 u a.length (entCells a)) (Hb : w.ownsRow 0 46 2 v b.length (entCells b)) (ha : a.length ≤ 1000000) (hb : b.length ≤ 1000000) :
    Calls Tryz.prog 8 #[u, v] w fun e w' => e = .returned (.bool (entsEq a b)) ∧ ∃ q, w' = w.drewN q := by
  obtain ⟨oa, ca, rfl⟩ := owns_form Ha
  obtain ⟨ob, cb, rfl⟩ := owns_form Hb
  by_cases hlen : a.length = b.length
  · have d0 : ((a.length : Int) != (b.length : Int)) = false := by rw [hlen]; simp
    have HA := Lib.hid Ha
    have HB := Lib.hid Hb
    have HL := Lib.hid hlen
    clear Ha Hb hlen
    go_enter Tryz.func8, Tryz.ntmps8
    go_wp2_with fail
    go_loopw [5] (EqRel a b w) (fun v _ => a.length - (intOf v).toNat)
    case atStart => exact ⟨0, Nat.zero_le _, rfl, Lib.hid ⟨0, rfl⟩, Lib.hid (fun j x y h => by omega)⟩
    case round =>
      obtain ⟨k, hk, rfl, HQ, HE⟩ := hrel
      by_cases hlt : k < a.length
      · have e1 : decide ((k : Int) < (a.length : Int)) = true := decide_eq_true (by omega)
        obtain ⟨x, hx⟩ : ∃ x, a[k]? = some x := ⟨_, List.getElem?_eq_getElem hlt⟩
        obtain ⟨y, hy⟩ : ∃ y, b[k]? = some y := ⟨_, List.getElem?_eq_getElem (by have := HL.out; omega)⟩
        obtain ⟨q, hq⟩ := HQ.out
        subst hq
        obtain ⟨g, cg, e2, _, _⟩ := owns_some HA.out (by omega)
        simp only [Value.slice.injEq] at e2
        obtain ⟨rfl, _, rfl⟩ := e2
        obtain ⟨g', cg', e2, _, _⟩ := owns_some HB.out (by have := HL.out; omega)
        simp only [Value.slice.injEq] at e2
        obtain ⟨rfl, _, rfl⟩ := e2
        have a0 : w.cell? ⟨g, k * 2, none⟩ = some (.string x.1) := owns_cell HA.out (entCells_get a k x hx).1
        have a1 : w.cell? ⟨g, k * 2 + 1, none⟩ = some (.int .i64 x.2) := owns_cell HA.out (entCells_get a k x hx).2
        have b0 : w.cell? ⟨g', k * 2, none⟩ = some (.string y.1) := owns_cell HB.out (entCells_get b k y hy).1
        have b1 : w.cell? ⟨g', k * 2 + 1, none⟩ = some (.int .i64 y.2) := owns_cell HB.out (entCells_get b k y hy).2
        have hkb : k < b.length := by have := HL.out; omega
        have HX := Lib.hid hx
        have HY := Lib.hid hy
        clear hx hy
        have hneq := fun W => run_neq_ent W x.1 y.1 x.2 y.2
        cases hb : entEq x y with
        | true =>
          rw [show entEq (x.1, x.2) (y.1, y.2) = true from hb, Bool.not_true] at hneq
          have R : EqRel a b w (.int .i64 ((k : Int) + 1)) (w.drewN q) := by
            refine ⟨k + 1, by omega, by simp, Lib.hid ⟨q, rfl⟩, Lib.hid (fun j u v hj hu hv => ?_)⟩
            rcases Nat.lt_succ_iff_lt_or_eq.1 hj with h | rfl
            · exact HE.out j u v h hu hv
            · obtain rfl := Option.some.inj (HX.out.symm.trans hu)
              obtain rfl := Option.some.inj (HY.out.symm.trans hv)
              exact hb
          have RR := Lib.hid R
          clear R hb
          go_upto_region 6 with fail
          go_quiet (fail)
          go_wp2_with fail
          go_roundw
          case rel =>
            obtain ⟨k', h1, h2, h3, h4⟩ := RR.out
            exact ⟨k', h1, h2, Lib.hid ⟨q + nq, by first | rfl | rw [drewN_two]⟩, h4⟩
          case measure => simp [intOf]; omega
        | false =>
          rw [show entEq (x.1, x.2) (y.1, y.2) = false from hb, Bool.not_false] at hneq
          have HR := Lib.hid (entsEq_no HX.out HY.out hb)
          clear hb
          go_upto_region 6 with fail
          go_quiet (fail)
          go_wp2_with fail
          go_ret
          exact ⟨ret_bool HR.out.symm, q + nq, by first | rfl | rw [drewN_two]⟩
      · have e1 : decide ((k : Int) < (a.length : Int)) = false := decide_eq_false (by omega)
        have HR := Lib.hid (show entsEq a b = true from entsEq_all HL.out (fun j x y hx hy => HE.out j x y (by have := (List.getElem?_eq_some_iff.1 hx).1; omega) hx hy))
        go_wp2_with fail
        go_ret
        exact ⟨ret_bool HR.out.symm, HQ.out⟩
  · have d0 : ((a.length : Int) != (b.length : Int)) = true := by simp; omega
    have HR := Lib.hid (show entsEq a b = false from by
      rw [← Bool.not_eq_true]
      exact fun e => hlen (entsEq_len e))
    clear hlen
    go_enter Tryz.func8, Tryz.ntmps8
    go_wp2_with fail
    go_ret
    exact ⟨ret_bool HR.out.symm, 0, rfl⟩
end Go.Proofs.YtfhagjnlliafiaaGreatDoor.V
