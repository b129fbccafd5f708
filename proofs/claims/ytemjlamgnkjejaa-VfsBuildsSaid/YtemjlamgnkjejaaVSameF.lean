/-
  What slices.EqualFunc of two rows of nodes and FS.Same return. Conditions: the file systems lie in memory; at most 1000000 nodes, and entries a directory.
-/
import Derived.Test.YtemjlamgnkjejaaVSame
import Derived.StillTailTactics
set_option linter.unusedVariables false
namespace Go.Proofs.Ytemjlamgnkjejaa
open Go.RowKit

def sameM : List Nd → List Nd → Bool
  | [], [] => true
  | x :: r, y :: t => alikeB x y && sameM r t
  | _, _ => false
theorem sameM_len : ∀ {a b : List Nd}, sameM a b = true → a.length = b.length
  | [], [], _ => rfl
  | x :: r, y :: t, h => by
    rw [sameM, Bool.and_eq_true] at h
    rw [List.length_cons, List.length_cons, sameM_len h.2]
  | [], y :: t, h => by simp [sameM] at h
  | x :: r, [], h => by simp [sameM] at h
theorem alikeB_self (n : Nd) : alikeB n n = true := by
  unfold alikeB knownB
  rw [entsEq_self]
  simp
theorem sameM_self : ∀ a : List Nd, sameM a a = true
  | [] => rfl
  | x :: r => by rw [sameM, sameM_self r, alikeB_self]; rfl
theorem sameM_no : ∀ {a b : List Nd} {k : Nat} {x y : Nd}, a[k]? = some x → b[k]? = some y → alikeB x y = false → sameM a b = false
  | x :: r, y :: t, 0, _, _, h, h', e => by
    simp at h h'
    subst h h'
    rw [sameM, e]
    rfl
  | x :: r, y :: t, k + 1, _, _, h, h', e => by
    rw [sameM, sameM_no (a := r) (b := t) (k := k) (by simpa using h) (by simpa using h') e]
    simp
  | [], _, k, _, _, h, _, _ => by simp at h
  | x :: r, [], k, _, _, _, h, _ => by simp at h
theorem sameM_all : ∀ {a b : List Nd}, a.length = b.length → (∀ (k : Nat) (x y : Nd), a[k]? = some x → b[k]? = some y → alikeB x y = true) → sameM a b = true
  | [], [], _, _ => rfl
  | x :: r, y :: t, h, e => by
    rw [sameM, e 0 x y rfl rfl, sameM_all (by simpa using h) (fun k u v hu hv => e (k + 1) u v (by simpa using hu) (by simpa using hv))]
    rfl
  | [], y :: t, h, _ => by simp at h
  | x :: r, [], h, _ => by simp at h

theorem ncell_one (x : Nd × Value) (h : x.2.oneCell' = true) : (nc x).toArray.all (·.oneCell') = true := all_oneCell_toArray (fun u hu => by
  simp only [nc, Nd.cells, List.mem_cons, List.mem_nil_iff, or_false] at hu
  rcases hu with rfl | rfl | rfl | rfl | rfl | rfl | rfl | rfl | rfl | rfl | rfl | rfl | rfl | rfl | rfl | rfl | rfl
  all_goals first | rfl | exact h)
theorem owns_oneCell {w : World} {b : Nat} {e : TypeId} {size n : Nat} {v : Value} {xs : List Value} (h : w.ownsRow b e size v n xs) : v.oneCell' = true := by
  rcases h.2 with ⟨rfl, _⟩ | ⟨g, cap, cur, rfl, _⟩ <;> rfl
def EfRel (a b : List Nd) (w : World) (v : Value) (wr : World) : Prop := ∃ k : Nat, k ≤ a.length ∧ v = .int .i64 (k : Int) ∧ Hid (Below w.heap.size w wr) ∧ Hid (∀ (j : Nat) (x y : Nd), j < k → a[j]? = some x → b[j]? = some y → alikeB x y = true)

set_option maxRecDepth 100000 in
set_option maxHeartbeats 4000000 in
theorem eqFunc_any (h h' : Fsh) (w : World) (H : Fs h w) (H' : Fs h' w) (hn : 0 < h.X.length) (hn' : 0 < h'.X.length) (hX : h.X.length ≤ 1000000) (hX' : h'.X.length ≤ 1000000) (he : ∀ x ∈ h.X, x.1.ents.length ≤ 1000000) (he' : ∀ x ∈ h'.X, x.1.ents.length ≤ 1000000) :
    Calls Try.prog 48 #[h.v, h'.v, .func (.func 49) #[] #[]] w fun e w' => e = .returned (.bool (sameM h.M h'.M)) ∧ Below w.heap.size w w' := by
  obtain ⟨g, cap, hv, _, _⟩ := H.slice hn
  obtain ⟨g', cap', hv', _, _⟩ := H'.slice hn'
  have hml : h.M.length = h.X.length := List.length_map ..
  have hml' : h'.M.length = h'.X.length := List.length_map ..
  by_cases hlen : h.X.length = h'.X.length
  · have d0 : ((h.X.length : Int) != (h'.X.length : Int)) = false := by rw [hlen]; simp
    have HL := Lib.hid hlen
    have HV := Lib.hid hv
    have HV' := Lib.hid hv'
    have HK := Lib.hid (show ∀ W, Below w.heap.size w W → Fs h W from fun W hb => H.keep hb)
    have HK' := Lib.hid (show ∀ W, Below w.heap.size w W → Fs h' W from fun W hb => H'.keep hb)
    have HE := Lib.hid he
    have HE' := Lib.hid he'
    rw [hv, hv']
    clear hlen hv hv' H H' he he'
    go_enter Try.func48, Try.ntmps48
    go_wp2_with fail
    go_loopw [17] (EfRel h.M h'.M w) (fun v _ => h.X.length - (intOf v).toNat)
    case atStart => exact ⟨0, Nat.zero_le _, rfl, Lib.hid (Below.refl _ _), Lib.hid (fun j x y h => by omega)⟩
    case round =>
      obtain ⟨k, hk, rfl, HB, HA⟩ := hrel
      by_cases hlt : k < h.X.length
      · have e1 : decide ((k : Int) < (h.X.length : Int)) = true := decide_eq_true (by omega)
        have hkb : k < h'.X.length := by have := HL.out; omega
        obtain ⟨x, hx⟩ : ∃ x, h.X[k]? = some x := ⟨_, List.getElem?_eq_getElem hlt⟩
        obtain ⟨y, hy⟩ : ∃ y, h'.X[k]? = some y := ⟨_, List.getElem?_eq_getElem hkb⟩
        have hbs := HB.out.size
        have HR := Lib.hid (show ∀ W, Below wr.heap.size wr W → W.rangeAt g (k * 17) (nc x) from fun W hb j u hj => ((HK.out _ HB.out).keep hb).at_node HV.out hx (show j < 17 from by rw [← nc_len x]; exact (List.getElem?_eq_some_iff.1 hj).1) hj)
        have HR' := Lib.hid (show ∀ W, Below wr.heap.size wr W → W.rangeAt g' (k * 17) (nc y) from fun W hb j u hj => ((HK'.out _ HB.out).keep hb).at_node HV'.out hy (show j < 17 from by rw [← nc_len y]; exact (List.getElem?_eq_some_iff.1 hj).1) hj)
        have HO := Lib.hid (ncell_one x (owns_oneCell ((HK.out _ HB.out).ents x (List.mem_of_getElem? hx))))
        have HO' := Lib.hid (ncell_one y (owns_oneCell ((HK'.out _ HB.out).ents y (List.mem_of_getElem? hy))))
        have HX := Lib.hid hx
        have HY := Lib.hid hy
        have HBa := Lib.hid (show ∀ o, Below wr.heap.size wr (wr.alloc o) from fun o => (Below.refl _ _).alloc (Nat.le_refl _) _)
        have HBb := Lib.hid (show ∀ o o', Below wr.heap.size wr ((wr.alloc o).alloc o') from fun o o' => ((Below.refl _ _).alloc (Nat.le_refl _) _).alloc (by simp) _)
        clear hx hy
        go_upto_region 6 with (first
          | (refine wpList_load_mid rfl 74 (.tmp 20) rfl g (k * 17) rfl (nc x) _ (HR.out _ (Below.refl _ _)) Try.underlying74 rfl sizeNode ?_)
          | (refine wpList_store_row rfl 74 (.tmp 8) (.tmp 21) rfl wr.heap.size (nc x).toArray rfl rfl _ _ (heap_alloc_new _ _) (by rw [sizeNode]; rfl) rfl HO.out ?_; rw [World.setRow_alloc_new]))
        have HB1 := Lib.hid (HBa.out (.cells (nc x).toArray 74))
        have HX1 := Lib.hid (heap_alloc_new wr (.cells (nc x).toArray 74))
        generalize wr.alloc (.cells (nc x).toArray 74) = W1 at HB1 HX1 ⊢
        have HB1a := Lib.hid (show ∀ o, Below wr.heap.size wr (W1.alloc o) from fun o => HB1.out.alloc HB1.out.size _)
        go_upto_region 7 with (first
          | (refine wpList_load_mid rfl 74 (.tmp 24) rfl g' (k * 17) rfl (nc y) _ (HR'.out _ HB1.out) Try.underlying74 rfl sizeNode ?_)
          | (refine wpList_store_row rfl 74 (.tmp 9) (.tmp 25) rfl W1.heap.size (nc y).toArray rfl rfl _ _ (heap_alloc_new _ _) (by rw [sizeNode]; rfl) rfl HO'.out ?_; rw [World.setRow_alloc_new]))
        have HB2 := Lib.hid (HB1a.out (.cells (nc y).toArray 74))
        have HY2 := Lib.hid (heap_alloc_new W1 (.cells (nc y).toArray 74))
        have HX2 := Lib.hid (show (W1.alloc (.cells (nc y).toArray 74)).heap[wr.heap.size]? = some (.cells (nc x).toArray 74 (0, 0)) from by
          rw [((Below.refl W1.heap.size W1).alloc (Nat.le_refl _) _).block _ (heap_lt HX1.out)]
          exact HX1.out)
        generalize W1.alloc (.cells (nc y).toArray 74) = W2 at HB2 HY2 HX2 ⊢
        have HC := Lib.hid (show Calls Try.prog 49 #[.agg (nc x).toArray, .agg (nc y).toArray] W2 fun e w' => e = .returned (.bool (alikeB x.1 y.1)) ∧ Below W2.heap.size W2 w' from
          alike_any x.1 y.1 x.2 y.2 W2 ((HK.out _ (below_two HB.out HB2.out)).ents x (List.mem_of_getElem? HX.out)) ((HK'.out _ (below_two HB.out HB2.out)).ents y (List.mem_of_getElem? HY.out)) (HE.out x (List.mem_of_getElem? HX.out)) (HE'.out y (List.mem_of_getElem? HY.out)))
        have HXM := Lib.hid (show h.M[k]? = some x.1 from by unfold Fsh.M; rw [List.getElem?_map, HX.out]; rfl)
        have HYM := Lib.hid (show h'.M[k]? = some y.1 from by unfold Fsh.M; rw [List.getElem?_map, HY.out]; rfl)
        cases hal : alikeB x.1 y.1 with
        | true =>
          rw [hal] at HC
          have HAL := Lib.hid hal
          clear hal
          go_wp2_with (first
            | (refine wpList_load_row rfl 74 (.tmp 8) rfl wr.heap.size rfl _ _ _ _ HX2.out Try.underlying74 rfl (by rw [sizeNode]; rfl) ?_)
            | (refine wpList_load_row rfl 74 (.tmp 9) rfl W1.heap.size rfl _ _ _ _ HY2.out Try.underlying74 rfl (by rw [sizeNode]; rfl) ?_)
            | (refine HC.out.mono ?_; rintro e w5 ⟨rfl, hb⟩; have HB5 := Lib.hid (below_two HB.out (below_two HB2.out hb)); clear hb))
          go_roundw
          case rel =>
            refine ⟨k + 1, by omega, by simp, HB5, Lib.hid (fun j u v hj hu hv => ?_)⟩
            rcases Nat.lt_succ_iff_lt_or_eq.1 hj with hlt' | rfl
            · exact HA.out j u v hlt' hu hv
            · obtain rfl := Option.some.inj (HXM.out.symm.trans hu)
              obtain rfl := Option.some.inj (HYM.out.symm.trans hv)
              exact HAL.out
          case measure => simp [intOf]; omega
        | false =>
          rw [hal] at HC
          have HR := Lib.hid (sameM_no HXM.out HYM.out hal)
          clear hal
          go_wp2_with (first
            | (refine wpList_load_row rfl 74 (.tmp 8) rfl wr.heap.size rfl _ _ _ _ HX2.out Try.underlying74 rfl (by rw [sizeNode]; rfl) ?_)
            | (refine wpList_load_row rfl 74 (.tmp 9) rfl W1.heap.size rfl _ _ _ _ HY2.out Try.underlying74 rfl (by rw [sizeNode]; rfl) ?_)
            | (refine HC.out.mono ?_; rintro e w5 ⟨rfl, hb⟩; have HB5 := Lib.hid (below_two HB.out (below_two HB2.out hb)); clear hb))
          go_ret
          exact ⟨ret_bool HR.out.symm, HB5.out⟩
      · have e1 : decide ((k : Int) < (h.X.length : Int)) = false := decide_eq_false (by omega)
        have HR := Lib.hid (show sameM h.M h'.M = true from sameM_all (by have := HL.out; omega) (fun j x y hx hy => HA.out j x y (by have := (List.getElem?_eq_some_iff.1 hx).1; omega) hx hy))
        go_wp2_with fail
        go_ret
        exact ⟨ret_bool HR.out.symm, HB.out⟩
  · have d0 : ((h.X.length : Int) != (h'.X.length : Int)) = true := by simp; omega
    have HR := Lib.hid (show sameM h.M h'.M = false from by
      rw [← Bool.not_eq_true]
      exact fun e => hlen (by have := sameM_len e; omega))
    rw [hv, hv']
    clear hlen hv hv' H H'
    go_enter Try.func48, Try.ntmps48
    go_wp2_with fail
    go_ret
    exact ⟨ret_bool HR.out.symm, Below.refl _ _⟩

set_option maxRecDepth 100000 in
set_option maxHeartbeats 4000000 in
theorem has_same {w0 w1 w : World} {p q : Nat} {M N : List Nd} (h : Has w0 p M w) (h' : Has w1 q N w) (hn : 0 < M.length) (hn' : 0 < N.length) (hX : M.length ≤ 1000000) (hX' : N.length ≤ 1000000) (he : FewE M) (he' : FewE N) :
    Calls Try.prog 22 #[.pointer (some ⟨p, 0, none⟩), .pointer (some ⟨q, 0, none⟩)] w fun e w' => e = .returned (.bool (sameM M N)) ∧ Below w.heap.size w w' := by
  obtain ⟨h, rfl, rfl, H, hb, hf⟩ := h
  obtain ⟨h', rfl, rfl, H', hb', hf'⟩ := h'
  have hml : h.M.length = h.X.length := List.length_map ..
  have hml' : h'.M.length = h'.X.length := List.length_map ..
  have c0 := H.cell0
  have c1 := H'.cell0
  obtain ⟨g, cap, hv, _, _⟩ := H.slice (by omega)
  obtain ⟨g', cap', hv', _, _⟩ := H'.slice (by omega)
  have HE := Lib.hid (fun W (hb : Below w.heap.size w W) => eqFunc_any h h' W (H.keep hb) (H'.keep hb) (by omega) (by omega) (by omega) (by omega) (fun x hx => he _ (List.mem_map_of_mem hx)) (fun x hx => he' _ (List.mem_map_of_mem hx)))
  rw [hv, hv'] at HE
  rw [hv] at c0
  rw [hv'] at c1
  clear hv hv' H H' hb hb' hf hf' he he'
  go_enter Try.func22, Try.ntmps22
  go_upto_region 1 with fail
  go_still_tail 8, (by kernel_rfl)
  change wpList _ _ _ _ _ w.drew
  have HD := Lib.hid (show Below w.heap.size w w.drew from below_drewN' (n := 1) (Below.refl _ _))
  generalize w.drew = w2 at HD ⊢
  go_wp2_with (refine (HE.out _ HD.out).mono ?_; rintro e w5 ⟨rfl, hb⟩; have HB5 := Lib.hid (below_two HD.out hb); clear hb)
  go_ret
  exact ⟨rfl, HB5.out⟩
end Go.Proofs.Ytemjlamgnkjejaa
