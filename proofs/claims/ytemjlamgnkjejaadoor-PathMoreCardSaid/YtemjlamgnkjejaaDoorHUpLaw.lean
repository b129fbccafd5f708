/-
  That the law PathUp returns true. Conditions: the table of classes lies as its text lays it; what came in lies in memory.
-/
import Derived.Test.YtemjlamgnkjejaaDoorHUp
import Derived.Test.YtemjlamgnkjejaaDoorVMade
import Derived.Deep.CutRange
set_option linter.unusedVariables false
namespace Go.Proofs.YtemjlamgnkjejaaDoor
open Go.RowKit

set_option maxRecDepth 100000 in
theorem awoken_any (w : World) :
    Calls Tryd.prog 6 #[] w fun e w' => e = .returned (.bool true) ∧ Below w.heap.size w w' := by
  have HN := Lib.hid (names_any ⟨#[47, 97, 47, 47, 98, 47]⟩ w (by decide))
  have e1 : (namesL ⟨#[47, 97, 47, 47, 98, 47]⟩).length = 2 := by decide +kernel
  have e2 : beginsB ⟨#[47, 97, 47, 47, 98, 47]⟩ = true := by decide +kernel
  have e3 : endsB ⟨#[47, 97, 47, 47, 98, 47]⟩ = true := by decide +kernel
  rw [e1, e2, e3] at HN
  clear e1 e2 e3
  go_enter Tryd.func6, Tryd.ntmps6
  go_wp2_with (go_at_call 16; refine HN.out.mono ?_; rintro e w2 ⟨A, rfl, hA, hown, hb⟩; have HB := Lib.hid hb; clear hown hb)
  go_ret
  exact ⟨rfl, HB.out⟩

def askedC (a : Option Addr) (n cap : Nat) (u g : Int) (s : ByteArray) (fo : Bool) : List Value := [.slice a n cap, .int .i64 u, .int .i64 g, .string s, .bool fo]
def askedV (a : Option Addr) (n cap : Nat) (u g : Int) (s : ByteArray) (fo : Bool) : Value := .agg #[.slice a n cap, .int .i64 u, .int .i64 g, .string s, .bool fo]
theorem runM_tgt : ∀ (cs : List Chg) (M : List Nd), TgtM M → (∀ c ∈ cs, c.text.size ≤ 5000) → TgtM (runM cs M)
  | [], M, h, _ => h
  | c :: r, M, h, hc => runM_tgt r (doM M c) (tgt_do h (hc c (List.mem_cons_self ..))) (fun x hx => hc x (List.mem_cons_of_mem _ hx))
theorem runM_du : ∀ (cs : List Chg) (M : List Nd), DU M → DU (runM cs M)
  | [], M, h => h
  | c :: r, M, h => runM_du r (doM M c) (du_do h)
theorem few_text {cs : List Chg} (h : FewL cs) (hl : cs.length ≤ 400) : ∀ c ∈ cs, c.text.size ≤ 5000 := fun c hc => by
  obtain ⟨k, hk⟩ := List.mem_iff_getElem?.1 hc
  exact (h k c (by have := (List.getElem?_eq_some_iff.1 hk).1; omega) hk).2

set_option maxRecDepth 100000 in
set_option maxHeartbeats 4000000 in
theorem askedFew_any (cs : List Chg) (a : Option Addr) (cap : Nat) (u g : Int) (s : ByteArray) (fo : Bool) (n : Int) (w : World) (H : IsChgs w a cs) (hl : cs.length ≤ 9223372036854775807) (hz : ∀ c ∈ cs, c.name.size ≤ 9223372036854775807 ∧ c.text.size ≤ 9223372036854775807) :
    Calls Tryd.prog 7 #[askedV a cs.length cap u g s fo, .int .i64 n] w fun e w' => ∃ b : Bool, e = .returned (.bool b) ∧ (b = true ↔ (FewL cs ∧ (cs.length : Int) ≤ n) ∧ s.size ≤ 5000) ∧ Below w.heap.size w w' := by
  have HF := Lib.hid (fun W (hb : Below w.heap.size w W) => few_any cs a cap n W (H.keep hb) hl hz)
  have HBa := Lib.hid (show ∀ o, Below w.heap.size w (w.alloc o) from fun o => (Below.refl _ _).alloc (Nat.le_refl _) _)
  clear H hz hl
  unfold askedV
  go_enter Tryd.func7, Tryd.ntmps7
  go_wp2_with fail
  refine (HF.out _ (HBa.out _)).mono ?_
  rintro e w3 ⟨b, rfl, hb, rfl⟩
  have HBb := Lib.hid hb
  clear hb
  cases b with
  | false =>
    go_wp2_with fail
    go_ret
    exact ⟨false, rfl, ⟨fun q => (by cases q), fun q => (HBb.out.2 q.1)⟩, HBa.out _⟩
  | true =>
    by_cases h5 : s.size ≤ 5000
    · have d5 : decide ((s.size : Int) ≤ 5000) = true := decide_eq_true (by omega)
      go_wp2_with fail
      go_ret
      exact ⟨true, rfl, ⟨fun _ => ⟨HBb.out.1 (by trivial), h5⟩, fun _ => (by trivial)⟩, HBa.out _⟩
    · have d5 : decide ((s.size : Int) ≤ 5000) = false := decide_eq_false (by omega)
      go_wp2_with fail
      go_ret
      exact ⟨false, rfl, ⟨fun q => (by cases q), fun q => absurd q.2 h5⟩, HBa.out _⟩

set_option maxRecDepth 100000 in
set_option maxHeartbeats 8000000 in
theorem ups_any (cs : List Chg) (a : Option Addr) (cap : Nat) (u g : Int) (s : ByteArray) (fo : Bool) (w : World) (H : IsChgs w a cs) (ht : Tab w) (hl : cs.length ≤ 9223372036854775807) (hz : ∀ c ∈ cs, (c.name.size ≤ 9223372036854775807 ∧ c.text.size ≤ 9223372036854775807) ∧ -9223372036854775808 ≤ c.n ∧ c.n ≤ 9223372036854775807) (hs : s.size ≤ 9223372036854775807) :
    Calls Tryd.prog 3 #[askedV a cs.length cap u g s fo] w fun e w' => e = .returned (.bool true) ∧ Below w.heap.size w w' := by
  have HFw := Lib.hid (fun (W : World) (hb : Below w.heap.size w W) => askedFew_any cs a cap u g s fo 30 W (H.keep hb) hl (fun c hc => (hz c hc).1))
  have HMd := Lib.hid (fun (W : World) (hb : Below w.heap.size w W) (h4 : cs.length ≤ 400) (hf : FewL cs) => made_any cs a cap W (H.keep hb) h4 hf (fun c hc => (hz c hc).2))
  have HT := Lib.hid ht
  clear H hz ht
  unfold askedV at HFw ⊢
  go_enter Tryd.func3, Tryd.ntmps3
  go_upto_region 1 with fail
  have HB0 := Lib.hid (show Below w.heap.size w (w.alloc (.cells #[.slice a cs.length cap, .int .i64 u, .int .i64 g, .string s, .bool fo] 26)) from (Below.refl _ _).alloc (Nat.le_refl _) _)
  have HX0 := Lib.hid (heap_alloc_new w (.cells #[.slice a cs.length cap, .int .i64 u, .int .i64 g, .string s, .bool fo] 26))
  generalize w.alloc (.cells #[.slice a cs.length cap, .int .i64 u, .int .i64 g, .string s, .bool fo] 26) = w0 at HB0 HX0 ⊢
  have HCl := Lib.hid (show ∀ W, Below w0.heap.size w0 W → W.cell? ⟨w.heap.size, 0, none⟩ = some (.slice a cs.length cap) ∧ W.cell? ⟨w.heap.size, 1, none⟩ = some (.int .i64 u) ∧ W.cell? ⟨w.heap.size, 2, none⟩ = some (.int .i64 g) ∧ W.cell? ⟨w.heap.size, 3, none⟩ = some (.string s) ∧ W.cell? ⟨w.heap.size, 4, none⟩ = some (.bool fo) from fun W hW => by
    have q := (hW.block _ (heap_lt HX0.out)).trans HX0.out
    refine ⟨?_, ?_, ?_, ?_, ?_⟩ <;> (rw [cell_of_row _ _ _ _ _ _ q]; rfl))
  go_wp2_with fail
  refine (awoken_any _).mono ?_
  rintro e w2 ⟨rfl, hb2⟩
  have HB2 := Lib.hid hb2
  clear hb2
  obtain ⟨c0, c1, c2, c3, c4⟩ := HCl.out _ HB2.out
  go_wp2_with fail
  refine (HFw.out _ (below_two HB0.out HB2.out)).mono ?_
  rintro e w3 ⟨b, rfl, hb, hb3⟩
  have HBb := Lib.hid hb
  have HB3 := Lib.hid (below_two HB2.out hb3)
  clear hb hb3 c0 c1 c2 c3 c4
  obtain ⟨c0, c1, c2, c3, c4⟩ := HCl.out _ HB3.out
  cases b with
  | false =>
    go_wp2_with fail
    refine (awoken_any _).mono ?_
    rintro e w4 ⟨rfl, hb4⟩
    have HB4 := Lib.hid (below_two (below_two HB0.out HB3.out) hb4)
    clear hb4
    go_wp2_with fail
    go_ret
    exact ⟨rfl, HB4.out⟩
  | true =>
    obtain ⟨⟨f1, f2⟩, f3⟩ := HBb.out.1 rfl
    have HFL := Lib.hid f1
    clear f1
    by_cases h10 : 1000 < s.size
    · have d10 : decide ((1000 : Int) < (s.size : Int)) = true := decide_eq_true (by omega)
      go_wp2_with fail
      refine (awoken_any _).mono ?_
      rintro e w4 ⟨rfl, hb4⟩
      have HB4 := Lib.hid (below_two (below_two HB0.out HB3.out) hb4)
      clear hb4
      go_wp2_with fail
      go_ret
      exact ⟨rfl, HB4.out⟩
    · have d10 : decide ((1000 : Int) < (s.size : Int)) = false := decide_eq_false (by omega)
      have HM := Lib.hid (HMd.out _ (below_two HB0.out HB3.out) (by omega) HFL.out)
      have HSM := Lib.hid (show Small (runM cs newM) cs.length from by
        have := runM_small cs newM 0 new_small
        rwa [Nat.zero_add] at this)
      have HM0 := Lib.hid (runM_pos cs newM (by decide))
      have HTg := Lib.hid (runM_tgt cs newM tgt_new (few_text HFL.out (by omega)))
      have HDu := Lib.hid (runM_du cs newM du_new)
      have hcl : cs.length ≤ 30 := by omega
      generalize runM cs newM = M at HM HSM HM0 HTg HDu
      go_upto_region 3 with fail
      go_wp2_with fail
      refine HM.out.mono ?_
      rintro e w4 ⟨p, r, L, rfl, T4, l4⟩
      have HT4 := Lib.hid T4
      have HN4 := Lib.hid (rs_one T4.rs)
      have HB4 := Lib.hid (below_two HB3.out T4.fs.below)
      clear T4 HM HMd HFw c0 c1 c2 c3 c4
      go_upto_region 4 with (refine wpList_store_row rfl 35 (.tmp 4) (.tmp 30) rfl w4.heap.size #[r.n, r.l, r.c, r.d, r.a, r.f] rfl rfl 35 nilsR (heap_alloc_new _ _) sizeRef rfl HN4.out ?_; rw [World.setRow_alloc_new])
      have HA5 := Lib.hid (show Below w4.heap.size w4 (w4.alloc (.cells #[r.n, r.l, r.c, r.d, r.a, r.f] 35)) from (Below.refl _ _).alloc (Nat.le_refl _) _)
      generalize w4.alloc (.cells #[r.n, r.l, r.c, r.d, r.a, r.f] 35) = w5 at HA5 ⊢
      have HF5 := Lib.hid (HT4.out.fs.keep HA5.out)
      have HB5 := Lib.hid (below_two HB4.out HA5.out)
      generalize w4.heap.size = B4
      clear HT4 HN4 HA5 HB4
      have HWk := Lib.hid (fun (path : ByteArray) (hp : path.size ≤ 1000000) W (hb : Below w5.heap.size w5 W) => walk_any (u := 0) (g := 0) (follow := true) path w3 W (HF5.out.keep hb) (HT.out.keep (below_two (below_two HB0.out HB5.out) hb)) HM0.out (small_fewE' HSM.out (by omega)) (tgt_link HTg.out) hp)
      unfold credV at HWk
      obtain ⟨c0, c1, c2, c3, c4⟩ := HCl.out _ HB5.out
      have HS1 := Lib.hid (HWk.out s (by omega))
      have HS2 := Lib.hid (HWk.out (s ++ ⟨#[47, 46, 46]⟩) (by rw [ByteArray.size_append, show (⟨#[47, 46, 46]⟩ : ByteArray).size = 3 from rfl]; omega))
      have hU : ¬ s.size = 0 → UpOk M (walkW M 0 0 s true) (walkW M 0 0 (s ++ ⟨#[47, 46, 46]⟩) true) := fun h0 => up_walk HDu.out 0 s h0 (by omega)
      generalize walkW M 0 0 s true = r1 at HS1 hU
      generalize walkW M 0 0 (s ++ ⟨#[47, 46, 46]⟩) true = r2 at HS2 hU
      have HU := Lib.hid hU
      clear hU HWk
      have HNd := Lib.hid (fun (i : Int) W (hb : Below w5.heap.size w5 W) => has_nodeI i (HF5.out.keep hb) HM0.out)
      simp only [nodeV_nv, known_nv] at HNd
      obtain ⟨e1, ⟨i1, dir1, n1⟩, hp1⟩ := r1
      obtain ⟨e2, ⟨i2, dir2, n2⟩, hp2⟩ := r2
      unfold resV plV at HS1 HS2
      go_wp2_with fail
      refine (HS1.out _ (Below.refl _ _)).mono ?_
      rintro e w6 ⟨rfl, hb6⟩
      have HB6 := Lib.hid hb6
      clear hb6 c0 c1 c2 c3 c4
      go_upto_region 5 with fail
      have HB7 := Lib.hid (below_two HB6.out ((Below.refl w6.heap.size w6).alloc (Nat.le_refl _) (.cells #[.int .i64 i1, .int .i64 dir1, .string n1, .int .i64 hp1] 39)))
      have HX7 := Lib.hid (heap_alloc_new w6 (.cells #[.int .i64 i1, .int .i64 dir1, .string n1, .int .i64 hp1] 39))
      generalize w6.alloc (.cells #[.int .i64 i1, .int .i64 dir1, .string n1, .int .i64 hp1] 39) = w7 at HB7 HX7 ⊢
      obtain ⟨c0, c1, c2, c3, c4⟩ := HCl.out _ (below_two HB5.out HB7.out)
      generalize w6.heap.size = b6 at HX7 ⊢
      go_wp2_with fail
      refine (HS2.out _ HB7.out).mono ?_
      rintro e w8 ⟨rfl, hb8⟩
      have HB8 := Lib.hid hb8
      clear hb8 c0 c1 c2 c3 c4
      go_upto_region 6 with fail
      have HB89 := Lib.hid (below_two HB8.out ((Below.refl w8.heap.size w8).alloc (Nat.le_refl _) (.cells #[.int .i64 i2, .int .i64 dir2, .string n2, .int .i64 hp2] 39)))
      have HX9 := Lib.hid (heap_alloc_new w8 (.cells #[.int .i64 i2, .int .i64 dir2, .string n2, .int .i64 hp2] 39))
      generalize w8.alloc (.cells #[.int .i64 i2, .int .i64 dir2, .string n2, .int .i64 hp2] 39) = w9 at HB89 HX9 ⊢
      have HXa := Lib.hid ((HB89.out.block _ (heap_lt HX7.out)).trans HX7.out)
      have HB9 := Lib.hid (below_two HB7.out HB89.out)
      generalize w8.heap.size = b8 at HX9 ⊢
      clear HX7 HB89 HB8 HB7 HB6
      have HBt := Lib.hid (below_two HB0.out (below_two HB5.out HB9.out))
      have HPl := Lib.hid (show ∀ W, Below w9.heap.size w9 W → W.cell? ⟨b6, 0, none⟩ = some (.int .i64 i1) ∧ W.cell? ⟨b6, 3, none⟩ = some (.int .i64 hp1) ∧ W.cell? ⟨b8, 0, none⟩ = some (.int .i64 i2) ∧ W.cell? ⟨b8, 2, none⟩ = some (.string n2) ∧ W.cell? ⟨b8, 3, none⟩ = some (.int .i64 hp2) from fun W hW => by
        have q := (hW.block _ (heap_lt HXa.out)).trans HXa.out
        have q' := (hW.block _ (heap_lt HX9.out)).trans HX9.out
        refine ⟨?_, ?_, ?_, ?_, ?_⟩ <;> first
          | (rw [cell_of_row _ _ _ _ _ _ q]; rfl)
          | (rw [cell_of_row _ _ _ _ _ _ q']; rfl))
      obtain ⟨c0, c1, c2, c3, c4⟩ := HCl.out _ (below_two HB5.out HB9.out)
      obtain ⟨p0, p3, q0, q2, q3⟩ := HPl.out _ (Below.refl _ _)
      by_cases h0 : s.size = 0
      · have z3 : s.toList = [] := by rw [Go.Lib.toList_data, Array.size_eq_zero_iff.1 (show s.data.size = 0 from h0)]
        have z4 : s.toList.isEmpty = true := by rw [z3]; rfl
        clear h0 h10 f3
        go_wp2_with fail
        go_ret
        exact ⟨rfl, HBt.out⟩
      · have z3 : ¬ s.toList = [] := by
          rw [Go.Lib.toList_data]
          intro e
          have h1 : s.data.toList.length = 0 := by rw [e]; rfl
          have h2 : s.data.toList.length = s.size := by simp
          omega
        have z4 : s.toList.isEmpty = false := by simpa using z3
        obtain ⟨u1, u2, u3⟩ := HU.out h0
        clear h0 h10 f3 HU
        by_cases he : e1 = 0
        · subst he
          have HU1 := Lib.hid (u1 rfl)
          have HU2 := Lib.hid (u2 rfl)
          clear u1 u2 u3
          unfold kindM at HU1 HU2
          by_cases hk : (nvAt M i1).kind = 2
          · have h2 := HU1.out hk
            simp only [Res.mk.injEq, plOf, Pl.mk.injEq] at h2
            obtain ⟨rfl, ⟨rfl, rfl, rfl⟩, rfl⟩ := h2
            have k2 : ((nvAt M i1).kind != 2) = false := by rw [hk]; rfl
            clear hk HU1 HU2
            go_wp2_with fail
            refine (HNd.out i1 _ HB9.out).mono ?_
            rintro e w10 ⟨rfl, hb10⟩
            have HB10 := Lib.hid hb10
            clear hb10 p0 p3 q0 q2 q3
            go_upto_region 11 with fail
            have HB11 := Lib.hid (HB10.out.alloc HB10.out.size (.cells #[.int .i64 (nvAt M i1).dev, .int .i64 (nvAt M i1).ino, .int .i64 (nvAt M i1).kind, .int .i64 (nvAt M i1).mode, .int .i64 (nvAt M i1).uid, .int .i64 (nvAt M i1).gid, .int .i64 (nvAt M i1).size, .int .i64 (nvAt M i1).blocks, .int .i64 (nvAt M i1).links, .int .i64 (nvAt M i1).ta, .int .i64 (nvAt M i1).tb, .int .i64 (nvAt M i1).tc, .string (nvAt M i1).target] 45))
            generalize w10.alloc (.cells #[.int .i64 (nvAt M i1).dev, .int .i64 (nvAt M i1).ino, .int .i64 (nvAt M i1).kind, .int .i64 (nvAt M i1).mode, .int .i64 (nvAt M i1).uid, .int .i64 (nvAt M i1).gid, .int .i64 (nvAt M i1).size, .int .i64 (nvAt M i1).blocks, .int .i64 (nvAt M i1).links, .int .i64 (nvAt M i1).ta, .int .i64 (nvAt M i1).tb, .int .i64 (nvAt M i1).tc, .string (nvAt M i1).target] 45) = w11 at HB11 ⊢
            obtain ⟨p0, p3, q0, q2, q3⟩ := HPl.out _ HB11.out
            have HUpC := Lib.hid (fun W (hb : Below w9.heap.size w9 W) => has_up i1 (HF5.out.keep (below_two HB9.out hb)) HM0.out)
            have HOvC := Lib.hid (fun W (hb : Below w9.heap.size w9 W) => has_over (upI M i1) (HF5.out.keep (below_two HB9.out hb)) HM0.out)
            have HBf := Lib.hid (below_two HBt.out HB11.out)
            clear HNd HF5 HB5 HB9 HBt c0 c1 c2 c3 c4
            go_quiet (first
              | (go_at_call 12; refine Calls.quiet_of_same (same_symm (HUpC.out _ (below_drewN HB11.out))))
              | (go_at_call 11; refine Calls.quiet_of_same (same_symm (HOvC.out _ (below_drewN HB11.out)))))
            go_wp2
            go_ret
            exact ⟨rfl, below_drewN HBf.out⟩
          · have h2 := HU2.out hk
            obtain rfl : e2 = 3 := h2
            have k2 : ((nvAt M i1).kind != 2) = true := by simpa using hk
            clear hk HU1 HU2
            go_wp2_with fail
            refine (HNd.out i1 _ HB9.out).mono ?_
            rintro e w10 ⟨rfl, hb10⟩
            have HB10 := Lib.hid (below_two HBt.out hb10)
            clear hb10
            go_wp2_with fail
            go_ret
            exact ⟨rfl, HB10.out.alloc HB10.out.size _⟩
        · have he2 : e2 ≠ 0 := u3 he
          have k1 : (e1 != 0) = true := by simpa using he
          have k2 : (e2 != 0) = true := by simpa using he2
          clear he he2 u1 u2 u3
          go_wp2_with fail
          go_ret
          exact ⟨rfl, HBt.out⟩
end Go.Proofs.YtemjlamgnkjejaaDoor
