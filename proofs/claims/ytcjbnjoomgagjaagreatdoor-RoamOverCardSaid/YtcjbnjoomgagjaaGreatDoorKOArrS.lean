/-
  Merging two halves of a list in place, by a model. Conditions: each fact's own.
-/
import Derived.Test.YtcjbnjoomgagjaaGreatDoorKGTree
import Derived.Test.YtcjbnjoomgagjaaGreatDoorKOPr1
import Derived.Test.YtcjbnjoomgagjaaGreatDoorKOAhead
import Derived.Test.YtcjbnjoomgagjaaGreatDoorKORefA
import Derived.Laws.CopyOwn
set_option linter.unusedVariables false
namespace Go.Proofs.YtcjbnjoomgagjaaGreatDoor.O
theorem range_take (s m k : Nat) (h : k ≤ m) : (List.range' s m).take k = List.range' s k := by
  obtain ⟨j, rfl⟩ : ∃ j, m = k + j := ⟨m - k, by omega⟩
  rw [← List.range'_append]
  exact List.take_left' (by rw [List.length_range'])
theorem range_drop (s m k : Nat) (h : k ≤ m) : (List.range' s m).drop k = List.range' (s + k) (m - k) := by
  obtain ⟨j, rfl⟩ : ∃ j, m = k + j := ⟨m - k, by omega⟩
  rw [← List.range'_append, List.drop_left' (by rw [List.length_range'])]
  congr 1
  · omega
  · omega
theorem pick_left {c : Ky → Ky → Int} (h : Tot c) (l : List Ky) {x y : Nat} (hxy : x < y) : aheadL c l x y = !decide (c (l.getD y noKy) (l.getD x noKy) < 0) := by
  have e := h.anti (l.getD x noKy) (l.getD y noKy)
  unfold aheadL
  by_cases q : c (l.getD y noKy) (l.getD x noKy) < 0
  · rw [decide_eq_true q, decide_eq_false (show ¬ c (l.getD x noKy) (l.getD y noKy) < 0 by omega), decide_eq_false (show ¬ c (l.getD x noKy) (l.getD y noKy) = 0 by omega)]
    rfl
  · rw [decide_eq_false q, decide_eq_true hxy]
    by_cases z : c (l.getD x noKy) (l.getD y noKy) < 0
    · rw [decide_eq_true z]; rfl
    · rw [decide_eq_false z, decide_eq_true (show c (l.getD x noKy) (l.getD y noKy) = 0 by omega)]; rfl
theorem drop_get {α : Type} {l : List α} {k : Nat} {b : α} (h : l[k]? = some b) : l.drop k = b :: l.drop (k + 1) := by
  obtain ⟨hk, rfl⟩ := List.getElem?_eq_some_iff.1 h
  exact (List.drop_eq_getElem_cons hk)
theorem take_set_next {α : Type} (Z : List α) (k : Nat) (x : α) (h : k < Z.length) : (Z.set k x).take (k + 1) = Z.take k ++ [x] := by
  rw [List.take_add_one, List.take_set_of_le (Nat.le_refl k), List.getElem?_set_self h]
  rfl
structure MI (F : Nat → Nat → Bool) (r1 r2 T FZ : List Nat) (f h n p q : Nat) (Z : List Nat) : Prop where
  lp : p ≤ r1.length
  lq : q ≤ r2.length
  len : Z.length = n
  eq : Z.take (f + p + q) ++ (mergeL F (r1.drop p) (r2.drop q) ++ T) = FZ
  rest : Z.drop (h + q) = r2.drop q ++ T
theorem MI.left {F : Nat → Nat → Bool} {r1 r2 T FZ : List Nat} {f h n p q x : Nat} {Z : List Nat} (m : MI F r1 r2 T FZ f h n p q Z) (hh : h = f + r1.length) (hn : h + r2.length ≤ n) (hx : r1[p]? = some x) (hc : r2.length ≤ q ∨ ∃ y, r2[q]? = some y ∧ F x y = true) : MI F r1 r2 T FZ f h n (p + 1) q (Z.set (f + p + q) x) := by
  have hp : p < r1.length := (List.getElem?_eq_some_iff.1 hx).1
  have lq := m.lq
  have hl := m.len
  refine ⟨hp, lq, by rw [List.length_set]; exact hl, ?_, ?_⟩
  · have e := m.eq
    have em : mergeL F (r1.drop p) (r2.drop q) = x :: mergeL F (r1.drop (p + 1)) (r2.drop q) := by
      rw [drop_get hx]
      rcases hc with hc | ⟨y, hy, hF⟩
      · rw [List.drop_of_length_le hc, merge_nil, merge_nil]
      · rw [drop_get hy, merge_left hF]
    rw [em] at e
    rw [show f + (p + 1) + q = f + p + q + 1 by omega, take_set_next _ _ _ (by omega), List.append_assoc]
    exact e
  · rw [List.drop_set_of_lt (by omega)]
    exact m.rest
theorem MI.right {F : Nat → Nat → Bool} {r1 r2 T FZ : List Nat} {f h n p q x y : Nat} {Z : List Nat} (m : MI F r1 r2 T FZ f h n p q Z) (hh : h = f + r1.length) (hn : h + r2.length ≤ n) (hx : r1[p]? = some x) (hy : r2[q]? = some y) (hF : F x y = false) : MI F r1 r2 T FZ f h n p (q + 1) (Z.set (f + p + q) y) := by
  have hp : p < r1.length := (List.getElem?_eq_some_iff.1 hx).1
  have hq : q < r2.length := (List.getElem?_eq_some_iff.1 hy).1
  have hl := m.len
  refine ⟨m.lp, hq, by rw [List.length_set]; exact hl, ?_, ?_⟩
  · have e := m.eq
    have em : mergeL F (r1.drop p) (r2.drop q) = y :: mergeL F (r1.drop p) (r2.drop (q + 1)) := by
      rw [drop_get hx, drop_get hy, merge_right hF]
    rw [em] at e
    rw [show f + p + (q + 1) = f + p + q + 1 by omega, take_set_next _ _ _ (by omega), List.append_assoc]
    exact e
  · rw [List.drop_set_of_lt (by omega)]
    have r := m.rest
    rw [drop_get hy] at r
    rw [show h + (q + 1) = (h + q) + 1 by omega, ← List.drop_drop, r]
    rfl
theorem MI.read {F : Nat → Nat → Bool} {r1 r2 T FZ : List Nat} {f h n p q y : Nat} {Z : List Nat} (m : MI F r1 r2 T FZ f h n p q Z) (hy : r2[q]? = some y) : Z[h + q]? = some y := by
  have r := m.rest
  rw [drop_get hy] at r
  have : (Z.drop (h + q))[0]? = some y := by rw [r]; rfl
  rwa [List.getElem?_drop] at this
theorem MI.done {F : Nat → Nat → Bool} {r1 r2 T FZ : List Nat} {f h n p q : Nat} {Z : List Nat} (m : MI F r1 r2 T FZ f h n p q Z) (hh : h = f + r1.length) (hp : r1.length ≤ p) : Z = FZ := by
  have lp := m.lp
  have e := m.eq
  rw [List.drop_of_length_le hp] at e
  have e2 : mergeL F [] (r2.drop q) = r2.drop q := by rw [mergeL]
  rw [e2, ← m.rest, show f + p + q = h + q by omega, List.take_append_drop] at e
  exact e
theorem MI.start (F : Nat → Nat → Bool) (r1 r2 A T : List Nat) (f h n : Nat) (hf : A.length = f) (hh : h = f + r1.length) (hn : (A ++ (r1 ++ (r2 ++ T))).length = n) : MI F r1 r2 T (A ++ (mergeL F r1 r2 ++ T)) f h n 0 0 (A ++ (r1 ++ (r2 ++ T))) := by
  refine ⟨Nat.zero_le _, Nat.zero_le _, hn, ?_, ?_⟩
  · rw [List.drop_zero, List.drop_zero, show f + 0 + 0 = f by omega, List.take_left' hf]
  · rw [List.drop_zero, show h + 0 = h by omega, hh, ← hf, ← List.append_assoc, List.drop_left' (by rw [List.length_append])]
theorem arr_small {Z : List Nat} {f t : Nat} (hft : f ≤ t) (ht : t ≤ Z.length) (hk : ∀ k, f ≤ k → k < t → Z[k]? = some k) : Z.take f ++ (List.range' f (t - f) ++ Z.drop t) = Z := by
  apply List.ext_getElem?
  intro k
  rcases Nat.lt_or_ge k f with q | q
  · rw [List.getElem?_append_left (by rw [List.length_take]; omega), List.getElem?_take, if_pos q]
  · rw [List.getElem?_append_right (by rw [List.length_take]; omega), List.length_take, show min f Z.length = f by omega]
    rcases Nat.lt_or_ge k t with r | r
    · rw [List.getElem?_append_left (by rw [List.length_range']; omega), List.getElem?_range' (by omega), hk k q r]
      congr 1
      omega
    · rw [List.getElem?_append_right (by rw [List.length_range']; omega), List.length_range', List.getElem?_drop]
      congr 1
      omega
theorem sort_len {F : Nat → Nat → Bool} {xs r : List Nat} (h : SortOf F xs r) : r.length = xs.length := h.1.length_eq
theorem arr_two {Z r1 r2 : List Nat} {f h t : Nat} (hfh : f ≤ h) (hht : h ≤ t) (ht : t ≤ Z.length) (h1 : r1.length = h - f) : (Z.take f ++ (r1 ++ Z.drop h)).take h ++ (r2 ++ (Z.take f ++ (r1 ++ Z.drop h)).drop t) = Z.take f ++ (r1 ++ (r2 ++ Z.drop t)) := by
  have a : (Z.take f).length = f := by rw [List.length_take]; omega
  have e1 : (Z.take f ++ (r1 ++ Z.drop h)).take h = Z.take f ++ r1 := by
    rw [← List.append_assoc]
    exact List.take_left' (by rw [List.length_append]; omega)
  have e2 : (Z.take f ++ (r1 ++ Z.drop h)).drop t = Z.drop t := by
    rw [← List.append_assoc, List.drop_append, List.drop_of_length_le (by rw [List.length_append]; omega), List.nil_append, List.drop_drop, List.length_append]
    congr 1
    omega
  rw [e1, e2, List.append_assoc]
theorem arr_right {Z r : List Nat} {f h t : Nat} (hfh : f ≤ h) (ht : t ≤ Z.length) (hht : h ≤ t) (hr : r.length = h - f) (hk : ∀ k, f ≤ k → k < t → Z[k]? = some k) : ∀ k, h ≤ k → k < t → (Z.take f ++ (r ++ Z.drop h))[k]? = some k := fun k h1 h2 => by
  rw [← List.append_assoc, List.getElem?_append_right (by rw [List.length_append, List.length_take]; omega), List.length_append, List.length_take, List.getElem?_drop, ← hk k (by omega) h2]
  congr 1
  omega
theorem arr_halves {F : Nat → Nat → Bool} {n f h t : Nat} {r1 r2 : List Nat} (hA : Strict n F) (hfh : f ≤ h) (hht : h ≤ t) (ht : t ≤ n) (h1 : SortOf F (List.range' f (h - f)) r1) (h2 : SortOf F (List.range' h (t - h)) r2) : SortOf F (List.range' f (t - f)) (mergeL F r1 r2) := by
  refine SortOf.halves hA (h - f) (fun i hi => ?_) List.nodup_range' ?_ ?_
  · have := (List.mem_range'_1.1 hi).2
    omega
  · rw [range_take _ _ _ (by omega)]
    exact h1
  · rw [range_drop _ _ _ (by omega), show f + (h - f) = h by omega, show t - f - (h - f) = t - h by omega]
    exact h2
theorem sort_mem {F : Nat → Nat → Bool} {f m : Nat} {r : List Nat} (h : SortOf F (List.range' f m) r) {k x : Nat} (hx : r[k]? = some x) : f ≤ x ∧ x < f + m := List.mem_range'_1.1 (h.1.mem_iff.1 (List.mem_of_getElem? hx))
end Go.Proofs.YtcjbnjoomgagjaaGreatDoor.O
namespace Go.Proofs.YtcjbnjoomgagjaaGreatDoor.O
open Go.Proofs.YtcjbnjoomgagjaaGreatDoor.B
open Go.RowKit
set_option maxRecDepth 100000 in
set_option maxHeartbeats 4000000 in
theorem pext_any (a : ByteArray) (w : World) (ha : a.size ≤ 60000) :
    Calls Tryz.prog 93 #[.string a] w fun e w' => e = .returned (.string (mkB (extL a.data.toList))) ∧ w' = w := by
  have HE := Lib.hid (ext_last a)
  have HL := Lib.hid (fun W => Tryz.strings_LastIndexByte a 46 (by omega) W)
  have hb : Lib.lastIndexByte a 46 < (a.size : Int) := by
    rcases Lib.lastIndexByte_spec a 46 with ⟨h, _⟩ | ⟨i, h1, h2, _⟩
    · omega
    · omega
  generalize Lib.lastIndexByte a 46 = p at HE HL hb
  go_enter Tryz.func93, Tryz.ntmps93
  by_cases h1 : p < 1
  · have d1 : decide (p < 1) = true := decide_eq_true h1
    rw [if_pos h1] at HE
    go_wp2_with (go_at_call 102; refine (HL.out _).mono ?_; rintro e w3 ⟨rfl, hw⟩; subst hw)
    go_ret
    exact ⟨by rw [HE.out]; rfl, rfl⟩
  · rw [if_neg h1] at HE
    have d1 : decide (p < 1) = false := decide_eq_false h1
    obtain ⟨k, rfl⟩ : ∃ k : Nat, p = (k : Int) := ⟨p.toNat, by omega⟩
    have HT := Lib.hid (ext_tail a k)
    go_wp2_with (go_at_call 102; refine (HL.out _).mono ?_; rintro e w3 ⟨rfl, hw⟩; subst hw)
    go_ret
    exact ⟨by rw [HE.out, Int.toNat_natCast, ← HT.out]; rfl, rfl⟩
theorem str_ne' (a : ByteArray) (h : 0 < a.size) : a.data ≠ #[] ∧ (a.toList == []) = false ∧ a.toList ≠ [] := by
  have h1 : a.data.toList ≠ [] := fun z => by rw [← size_list, z] at h; exact absurd h (by decide)
  have h2 : a.toList ≠ [] := fun z => by
    rw [Lib.toList_data] at z
    exact h1 z
  exact ⟨fun z => h1 (by rw [z]), beq_eq_false_iff_ne.2 h2, h2⟩
theorem emp_of (a : ByteArray) (h : a.size = 0) : a = ⟨#[]⟩ := by
  apply ByteArray.ext
  exact Array.eq_empty_of_size_eq_zero h
def szV : Value → Nat
  | .string s => s.size
  | _ => 0
def PVRel (a b : ByteArray) (w : World) (v0 v1 : Value) (wr : World) : Prop :=
  ∃ x y : ByteArray, v0 = .string x ∧ v1 = .string y ∧ x.size ≤ 60000 ∧ y.size ≤ 60000 ∧ Hid (verL a.data.toList b.data.toList = verL x.data.toList y.data.toList) ∧ Hid (Below w.heap.size w wr)
theorem list_cons {s : ByteArray} (h : 0 < s.size) : ∃ x A, s.data.toList = x :: A := by
  cases e : s.data.toList with
  | nil => rw [← size_list, e] at h; exact absurd h (by decide)
  | cons x A => exact ⟨x, A, rfl⟩
theorem take_size (s : ByteArray) (k : Nat) (hk : k ≤ s.size) : (mkB (s.data.toList.take k)).size = k := by
  rw [← size_list, mkB_list, List.length_take, size_list]
  omega
theorem tkK_le {l : List UInt8} (h : 0 < l.length) : tkK l ≤ l.length := by
  have := tkN_le l
  unfold tkK
  omega
theorem tkK_pos (l : List UInt8) : 0 < tkK l := by unfold tkK; omega
theorem ver_drop (x y : ByteArray) (hx : 0 < x.size) (hy : 0 < y.size) (lx : x.size ≤ 60000) (ly : y.size ≤ 60000) : verL x.data.toList y.data.toList = if tokC (x.data.toList.take (tkK x.data.toList)) (y.data.toList.take (tkK y.data.toList)) = 0 then verL (x.extract (tkK x.data.toList) x.size).data.toList (y.extract (tkK y.data.toList) y.size).data.toList else tokC (x.data.toList.take (tkK x.data.toList)) (y.data.toList.take (tkK y.data.toList)) := by
  have sx := size_list x
  have sy := size_list y
  rw [ext_tail, ext_tail, mkB_list, mkB_list]
  obtain ⟨a, A, hA⟩ := list_cons hx
  obtain ⟨b, B, hB⟩ := list_cons hy
  rw [hA] at sx ⊢
  rw [hB] at sy ⊢
  exact ver_step a A b B (by omega) (by omega)
set_option maxRecDepth 100000 in
set_option maxHeartbeats 8000000 in
theorem over_any' (a b : ByteArray) (w : World) (ha : a.size ≤ 60000) (hb : b.size ≤ 60000) :
    Calls Tryz.prog 94 #[.string a, .string b] w fun e w' => e = .returned (.int .i64 (verL a.data.toList b.data.toList)) ∧ Below w.heap.size w w' := by
  go_enter Tryz.func94, Tryz.ntmps94
  go_wp2
  go_loopw [0, 1] (PVRel a b w) (fun v _ _ => szV v)
  case atStart => exact ⟨a, b, rfl, rfl, ha, hb, Lib.hid rfl, Lib.hid (Below.refl _ _)⟩
  case round =>
    obtain ⟨x, y, rfl, rfl, lx, ly, HV, HB⟩ := hrel
    by_cases h1 : 0 < x.size
    · have n1 := str_ne' x h1
      by_cases h2 : 0 < y.size
      · have n2 := str_ne' y h2
        have HS := Lib.hid (HV.out.trans (ver_drop x y h1 h2 lx ly))
        obtain ⟨c, A, hA⟩ := list_cons h1
        obtain ⟨d, B, hB⟩ := list_cons h2
        have kx := tkK_le (l := x.data.toList) (by rw [size_list]; exact h1)
        have ky := tkK_le (l := y.data.toList) (by rw [size_list]; exact h2)
        have px := tkK_pos x.data.toList
        have py := tkK_pos y.data.toList
        rw [size_list] at kx ky
        have HTx := Lib.hid (fun W => token_any x W h1 lx)
        have HTy := Lib.hid (fun W => token_any y W h2 ly)
        have qx := take_size x _ kx
        have qy := take_size y _ ky
        have HC := Lib.hid (fun W => ctok_any (mkB (x.data.toList.take (tkK x.data.toList))) (mkB (y.data.toList.take (tkK y.data.toList))) c d (A.take (tkK x.data.toList - 1)) (B.take (tkK y.data.toList - 1)) W (by omega) (by omega)
          (by rw [mkB_list, hA]; obtain ⟨m, hm⟩ : ∃ m, tkK (c :: A) = m + 1 := ⟨tkK (c :: A) - 1, by have := tkK_pos (c :: A); omega⟩; rw [hm]; rfl)
          (by rw [mkB_list, hB]; obtain ⟨m, hm⟩ : ∃ m, tkK (d :: B) = m + 1 := ⟨tkK (d :: B) - 1, by have := tkK_pos (d :: B); omega⟩; rw [hm]; rfl))
        simp only [mkB_list] at HC
        clear hA hB HV
        generalize tokC (x.data.toList.take (tkK x.data.toList)) (y.data.toList.take (tkK y.data.toList)) = C at HS HC
        generalize mkB (x.data.toList.take (tkK x.data.toList)) = tx at HTx HC qx
        generalize mkB (y.data.toList.take (tkK y.data.toList)) = ty at HTy HC qy
        generalize tkK x.data.toList = kx0 at *
        generalize tkK y.data.toList = ky0 at *
        by_cases q : C = 0
        · rw [if_pos q] at HS
          have d0 : (C != 0) = false := by simpa using q
          go_wp2_with fail
          refine (HTx.out _).mono ?_
          rintro e w3 ⟨rfl, hw⟩
          subst hw
          go_wp2_with fail
          refine (HTy.out _).mono ?_
          rintro e w3 ⟨rfl, hw⟩
          subst hw
          go_upto_region 6 with (go_at_call 104; refine (HC.out _).mono ?_; rintro e w4 ⟨rfl, hb⟩; have HB4 := Lib.hid (below_two HB.out hb); clear hb)
          go_quiet (fail)
          have HB5 := Lib.hid (show Below w.heap.size w (w4.drewN nq) from below_drewNb HB4.out)
          generalize w4.drewN nq = w5 at HB5 ⊢
          have ex : (x.extract kx0 x.size).size = x.size - kx0 := by rw [ByteArray.size_extract]; omega
          have ey : (y.extract ky0 y.size).size = y.size - ky0 := by rw [ByteArray.size_extract]; omega
          go_wp2
          go_roundw
          case rel => exact ⟨_, _, rfl, rfl, by omega, by omega, HS, HB5⟩
          case measure => show (x.extract kx0 x.size).size < x.size; omega
        · rw [if_neg q] at HS
          have d0 : (C != 0) = true := by simpa using q
          go_wp2_with fail
          refine (HTx.out _).mono ?_
          rintro e w3 ⟨rfl, hw⟩
          subst hw
          go_wp2_with fail
          refine (HTy.out _).mono ?_
          rintro e w3 ⟨rfl, hw⟩
          subst hw
          go_wp2_with (go_at_call 104; refine (HC.out _).mono ?_; rintro e w4 ⟨rfl, hb⟩; have HB4 := Lib.hid (below_two HB.out hb); clear hb)
          go_ret
          exact ⟨ret_int HS.out.symm, HB4.out⟩
      · obtain rfl := emp_of y (by omega)
        have HE := Lib.hid (HV.out.trans (ver_end (.inr rfl)))
        rw [size_list] at HE
        have HCi := Lib.hid (fun W => cint_any (x.size : Int) 0 W)
        clear HV
        go_wp2_with (go_at_call 105; refine (HCi.out _).mono ?_; rintro e w3 ⟨rfl, hw⟩; subst hw)
        go_ret
        exact ⟨ret_int HE.out.symm, HB.out⟩
    · obtain rfl := emp_of x (by omega)
      have HE := Lib.hid (HV.out.trans (ver_end (.inl rfl)))
      rw [size_list] at HE
      have HCi := Lib.hid (fun W => cint_any 0 (y.size : Int) W)
      clear HV
      go_wp2_with (go_at_call 105; refine (HCi.out _).mono ?_; rintro e w3 ⟨rfl, hw⟩; subst hw)
      go_ret
      exact ⟨ret_int HE.out.symm, HB.out⟩
end Go.Proofs.YtcjbnjoomgagjaaGreatDoor.O
namespace Go.Proofs.YtcjbnjoomgagjaaGreatDoor.O
open Go.Proofs.YtcjbnjoomgagjaaGreatDoor.B
open Go.RowKit
def KyAt (W : World) (g : Nat) (k : Ky) : Prop := W.cell? ⟨g, 0, none⟩ = some (.string k.name) ∧ W.cell? ⟨g, 1, none⟩ = some (.int .i64 k.size) ∧ W.cell? ⟨g, 2, none⟩ = some (.int .i64 k.time) ∧ W.cell? ⟨g, 3, none⟩ = some (.bool k.dir)
theorem ky_at {w2 : World} {g : Nat} {k : Ky} (h : w2.heap[g]? = some (.cells #[.string k.name, .int .i64 k.size, .int .i64 k.time, .bool k.dir] 107 (0, 0))) : ∀ W, Below w2.heap.size w2 W → KyAt W g k := fun W hW => by
  have q := (hW.block _ (heap_lt h)).trans h
  refine ⟨?_, ?_, ?_, ?_⟩ <;> (rw [cell_of_row _ _ _ _ _ _ q]; rfl)
set_option maxRecDepth 100000 in
set_option maxHeartbeats 8000000 in
theorem palone_any (o : Int) (a b : Ky) (w : World) (ha : a.name.size ≤ 60000) (hb : b.name.size ≤ 60000) :
    Calls Tryz.prog 88 #[.int .i64 o, kyV a, kyV b] w fun e w' => e = .returned (.int .i64 (ordC o a b)) ∧ Below w.heap.size w w' := by
  have HLe := Lib.hid (fun W => scmp_any (mkB (extL a.name.data.toList)) (mkB (extL b.name.data.toList)) W)
  have HVe := Lib.hid (fun W => over_any' a.name b.name W ha hb)
  have HN1 := Lib.hid (fun W => cint64_any b.size a.size W)
  have HN2 := Lib.hid (fun W => cint64_any b.time a.time W)
  simp only [mkB_list] at HLe
  have HO := Lib.hid (show ordC o a b = if o = 1 then cmpI b.size a.size else if o = 2 then cmpI b.time a.time else if o = 3 then lessL (extL a.name.data.toList) (extL b.name.data.toList) else if o = 4 then verL a.name.data.toList b.name.data.toList else 0 from rfl)
  generalize ordC o a b = C at HO ⊢
  unfold kyV
  go_enter Tryz.func88, Tryz.ntmps88
  go_upto_region 1 with fail
  obtain ⟨X1, X2, XB⟩ := two_boxes' w #[.string a.name, .int .i64 a.size, .int .i64 a.time, .bool a.dir] #[.string b.name, .int .i64 b.size, .int .i64 b.time, .bool b.dir] 107
  have HKa := Lib.hid (ky_at X1)
  have HKb := Lib.hid (ky_at X2)
  have HB := Lib.hid XB
  have HSz := Lib.hid XB.size
  clear X1 X2 XB
  generalize (w.alloc (.cells #[.string a.name, .int .i64 a.size, .int .i64 a.time, .bool a.dir] 107)).alloc (.cells #[.string b.name, .int .i64 b.size, .int .i64 b.time, .bool b.dir] 107) = w2 at HKa HKb HB HSz ⊢
  obtain ⟨gA, hgA⟩ : ∃ g, w.heap.size = g := ⟨_, rfl⟩
  have HgA := Lib.hid hgA
  rw [hgA] at HKa HKb HB HSz ⊢
  clear hgA
  generalize gA + 1 = gB at HKb ⊢
  obtain ⟨a0, a1, a2, a3⟩ := HKa.out w2 (Below.refl _ _)
  obtain ⟨b0, b1, b2, b3⟩ := HKb.out w2 (Below.refl _ _)
  by_cases o1 : o = 1
  · rw [if_pos o1] at HO
    have d1 : (o == 1) = true := beq_iff_eq.2 o1
    clear o1
    go_wp2_with (go_at_call 92; refine (HN1.out _).mono ?_; rintro e w3 ⟨rfl, hw⟩; subst hw)
    go_ret
    exact ⟨ret_int HO.out.symm, by rw [HgA.out]; exact HB.out⟩
  · rw [if_neg o1] at HO
    have d1 : (o == 1) = false := beq_eq_false_iff_ne.2 o1
    clear o1
    by_cases o2 : o = 2
    · rw [if_pos o2] at HO
      have d2 : (o == 2) = true := beq_iff_eq.2 o2
      clear o2
      go_wp2_with (go_at_call 92; refine (HN2.out _).mono ?_; rintro e w3 ⟨rfl, hw⟩; subst hw)
      go_ret
      exact ⟨ret_int HO.out.symm, by rw [HgA.out]; exact HB.out⟩
    · rw [if_neg o2] at HO
      have d2 : (o == 2) = false := beq_eq_false_iff_ne.2 o2
      clear o2
      by_cases o3 : o = 3
      · rw [if_pos o3] at HO
        have d3 : (o == 3) = true := beq_iff_eq.2 o3
        clear o3
        have aq : ∀ n, (w2.drewN n).cell? ⟨gA, 0, none⟩ = some (.string a.name) := fun n => (HKa.out _ (below_drewNb (Below.refl _ _))).1
        have bq : ∀ n, (w2.drewN n).cell? ⟨gB, 0, none⟩ = some (.string b.name) := fun n => (HKb.out _ (below_drewNb (Below.refl _ _))).1
        go_upto_region 7 with fail
        go_quiet (first
          | (go_at_call 89; refine Calls.quiet_of_same (HLe.out _))
          | (go_at_call 93; refine Calls.quiet_of_same (pext_any _ _ (by first | exact ha | exact hb))))
        have HBd := Lib.hid (show Below gA w (w2.drewN nq) from below_drewNb HB.out)
        generalize w2.drewN nq = w3 at HBd ⊢
        go_wp2
        go_ret
        exact ⟨ret_int HO.out.symm, by rw [HgA.out]; exact HBd.out⟩
      · rw [if_neg o3] at HO
        have d3 : (o == 3) = false := beq_eq_false_iff_ne.2 o3
        clear o3
        by_cases o4 : o = 4
        · rw [if_pos o4] at HO
          have d4 : (o == 4) = true := beq_iff_eq.2 o4
          clear o4
          go_wp2_with (go_at_call 94; refine (HVe.out _).mono ?_; rintro e w3 ⟨rfl, hb⟩; have HB3 := Lib.hid (HB.out.trans (hb.mono HSz.out)); clear hb)
          go_ret
          exact ⟨ret_int HO.out.symm, by rw [HgA.out]; exact HB3.out⟩
        · rw [if_neg o4] at HO
          have d4 : (o == 4) = false := beq_eq_false_iff_ne.2 o4
          clear o4
          go_wp2_with fail
          go_ret
          exact ⟨ret_int HO.out.symm, by rw [HgA.out]; exact HB.out⟩
set_option maxRecDepth 100000 in
set_option maxHeartbeats 8000000 in
theorem pcompare_any (o : Int) (a b : Ky) (w : World) (ha : a.name.size ≤ 60000) (hb : b.name.size ≤ 60000) :
    Calls Tryz.prog 84 #[.int .i64 o, kyV a, kyV b] w fun e w' => e = .returned (.int .i64 (cmpK o a b)) ∧ Below w.heap.size w w' := by
  have HA := Lib.hid (fun W => palone_any o a b W ha hb)
  have HS := Lib.hid (fun W => scmp_any a.name b.name W)
  have HC := Lib.hid (show cmpK o a b = if ordC o a b = 0 then nameC a b else ordC o a b from rfl)
  have HNm := Lib.hid (show nameC a b = lessL a.name.data.toList b.name.data.toList from rfl)
  rw [HNm.out] at HC
  clear HNm
  generalize ordC o a b = C at HC HA
  generalize cmpK o a b = R at HC ⊢
  generalize lessL a.name.data.toList b.name.data.toList = L at HC HS
  unfold kyV at HA ⊢
  go_enter Tryz.func84, Tryz.ntmps84
  go_upto_region 1 with fail
  obtain ⟨X1, X2, XB⟩ := two_boxes' w #[.string a.name, .int .i64 a.size, .int .i64 a.time, .bool a.dir] #[.string b.name, .int .i64 b.size, .int .i64 b.time, .bool b.dir] 107
  have HKa := Lib.hid (ky_at X1)
  have HKb := Lib.hid (ky_at X2)
  have HB := Lib.hid XB
  have HSz := Lib.hid XB.size
  clear X1 X2 XB
  generalize (w.alloc (.cells #[.string a.name, .int .i64 a.size, .int .i64 a.time, .bool a.dir] 107)).alloc (.cells #[.string b.name, .int .i64 b.size, .int .i64 b.time, .bool b.dir] 107) = w2 at HKa HKb HB HSz ⊢
  obtain ⟨gA, hgA⟩ : ∃ g, w.heap.size = g := ⟨_, rfl⟩
  have HgA := Lib.hid hgA
  rw [hgA] at HKa HKb HB HSz ⊢
  clear hgA
  generalize gA + 1 = gB at HKb ⊢
-- TILL 1
  refine Till.region (z := 1000) (S := fun w' => Below w2.heap.size w2 w') (by kernel_rfl) ((Below.refl _ _).drew) (fun hHeld => ?_)
  refine Till.takeA (i := 0) (oi := { dst := some 7, op := Op.move (Operand.tmp 0), type := 3, pos := "order.go:29", after := #[], guard := none }) (v := .int .i64 o) rfl (by kernel_rfl) (by kernel_rfl) (by kernel_rfl) (by rfl) (fun _ _ _ h => h) (Or.inl ⟨by rfl, fun w0 hS0 => ?_⟩) (by assumption) ?_
  · go_simp
  try simp only [Act.put, List.setIfInBounds_toArray, List.set_cons_zero, List.set_cons_succ]
  refine Till.takeA (i := 1) (oi := { dst := some 8, op := Op.load 107 (Operand.tmp 4), type := 107, pos := "order.go:29", after := #[], guard := none }) (v := .agg #[.string a.name, .int .i64 a.size, .int .i64 a.time, .bool a.dir]) rfl (by kernel_rfl) (by kernel_rfl) (by kernel_rfl) (by rfl) (fun _ _ _ h => h) (Or.inl ⟨by rfl, fun w0 hS0 => ?_⟩) (by assumption) ?_
  · obtain ⟨r0, r1, r2, r3⟩ := HKa.out _ hS0; go_simp
  try simp only [Act.put, List.setIfInBounds_toArray, List.set_cons_zero, List.set_cons_succ]
  refine Till.takeA (i := 2) (oi := { dst := some 9, op := Op.load 107 (Operand.tmp 5), type := 107, pos := "order.go:29", after := #[], guard := none }) (v := .agg #[.string b.name, .int .i64 b.size, .int .i64 b.time, .bool b.dir]) rfl (by kernel_rfl) (by kernel_rfl) (by kernel_rfl) (by rfl) (fun _ _ _ h => h) (Or.inl ⟨by rfl, fun w0 hS0 => ?_⟩) (by assumption) ?_
  · obtain ⟨r0, r1, r2, r3⟩ := HKb.out _ hS0; go_simp
  try simp only [Act.put, List.setIfInBounds_toArray, List.set_cons_zero, List.set_cons_succ]
  refine Till.takeA (i := 4) (oi := { dst := some 11, op := Op.fieldAddr 107 (Operand.tmp 4) 0, type := 0, pos := "order.go:29", after := #[], guard := none }) (v := .pointer (some ⟨gA, 0, none⟩)) rfl (by kernel_rfl) (by kernel_rfl) (by kernel_rfl) (by rfl) (fun _ _ _ h => h) (Or.inl ⟨by rfl, fun w0 hS0 => ?_⟩) (by assumption) ?_
  · go_simp
  try simp only [Act.put, List.setIfInBounds_toArray, List.set_cons_zero, List.set_cons_succ]
  refine Till.takeA (i := 5) (oi := { dst := some 12, op := Op.load 9 (Operand.tmp 11), type := 9, pos := "order.go:29", after := #[{ on := 4, ground := Ground.data }], guard := none }) (v := .string a.name) rfl (by kernel_rfl) (by kernel_rfl) (by kernel_rfl) (by rfl) (fun _ _ _ h => h) (Or.inl ⟨by rfl, fun w0 hS0 => ?_⟩) (by assumption) ?_
  · obtain ⟨r0, r1, r2, r3⟩ := HKa.out _ hS0; go_simp
  try simp only [Act.put, List.setIfInBounds_toArray, List.set_cons_zero, List.set_cons_succ]
  refine Till.takeA (i := 6) (oi := { dst := some 13, op := Op.fieldAddr 107 (Operand.tmp 5) 0, type := 0, pos := "order.go:29", after := #[], guard := none }) (v := .pointer (some ⟨gB, 0, none⟩)) rfl (by kernel_rfl) (by kernel_rfl) (by kernel_rfl) (by rfl) (fun _ _ _ h => h) (Or.inl ⟨by rfl, fun w0 hS0 => ?_⟩) (by assumption) ?_
  · go_simp
  try simp only [Act.put, List.setIfInBounds_toArray, List.set_cons_zero, List.set_cons_succ]
  refine Till.takeA (i := 7) (oi := { dst := some 14, op := Op.load 9 (Operand.tmp 13), type := 9, pos := "order.go:29", after := #[{ on := 6, ground := Ground.data }], guard := none }) (v := .string b.name) rfl (by kernel_rfl) (by kernel_rfl) (by kernel_rfl) (by rfl) (fun _ _ _ h => h) (Or.inl ⟨by rfl, fun w0 hS0 => ?_⟩) (by assumption) ?_
  · obtain ⟨r0, r1, r2, r3⟩ := HKb.out _ hS0; go_simp
  try simp only [Act.put, List.setIfInBounds_toArray, List.set_cons_zero, List.set_cons_succ]
  refine Till.next (i := 3) (o := { dst := some 10, op := Op.call { callee := Callee.value (Operand.func 88), args := #[Operand.tmp 7, Operand.tmp 8, Operand.tmp 9], argTypes := #[3, 107, 107] }, type := 3, pos := "order.go:29", after := #[{ on := 0, ground := Ground.data }, { on := 1, ground := Ground.data }, { on := 2, ground := Ground.data }], guard := none }) (by kernel_rfl) rfl (fun K hK => ?_)
  go_simp
  refine (HA.out _).mono ?_
  rintro e w3 ⟨rfl, hb3⟩
  have hHeld3 : Below w2.heap.size w2 w3 := below_two hHeld hb3
  clear hb3
  go_wp2_with fail
  refine hK.out _ _ (fun _ => hHeld3) ?_
  clear hK K
  try simp only [Act.put, List.setIfInBounds_toArray, List.set_cons_zero, List.set_cons_succ]
  refine Till.next (i := 8) (o := { dst := some 15, op := Op.call { callee := Callee.value (Operand.func 89), args := #[Operand.tmp 12, Operand.tmp 14], argTypes := #[9, 9] }, type := 3, pos := "order.go:29", after := #[{ on := 5, ground := Ground.data }, { on := 7, ground := Ground.data }, { on := 3, ground := Ground.chain }], guard := none }) (by kernel_rfl) rfl (fun K hK => ?_)
  go_simp
  refine (HS.out _).mono ?_
  rintro e w4 ⟨rfl, hw⟩
  subst hw
  go_wp2_with fail
  refine hK.out _ _ (fun _ => hHeld3) ?_
  clear hK K
  try simp only [Act.put, List.setIfInBounds_toArray, List.set_cons_zero, List.set_cons_succ]
  refine Till.next (i := 9) (o := { dst := some 16, op := Op.buildSlice 32 2 #[(0, Operand.tmp 10), (1, Operand.tmp 15)], type := 32, pos := "order.go:29", after := #[{ on := 3, ground := Ground.data }, { on := 8, ground := Ground.data }], guard := none }) (by kernel_rfl) rfl (fun K hK => ?_)
  go_simp
  refine hK.out _ _ (fun _ => hHeld3.alloc hHeld3.size _) ?_
  clear hK K
  try simp only [Act.put, List.setIfInBounds_toArray, List.set_cons_zero, List.set_cons_succ]
  refine Till.next (i := 10) (o := { dst := some 17, op := Op.call { callee := Callee.value (Operand.func 87), args := #[Operand.tmp 16], argTypes := #[32] }, type := 3, pos := "order.go:29", after := #[{ on := 9, ground := Ground.data }, { on := 8, ground := Ground.chain }], guard := none }) (by kernel_rfl) rfl (fun K hK => ?_)
  go_simp
  refine (cor2_any C L R _ HC.out).mono ?_
  rintro e w5 ⟨rfl, hb5⟩
  have hHeld5 : Below w2.heap.size w2 w5 := below_two hHeld3 hb5
  clear hb5
  go_wp2_with fail
  refine hK.out _ _ (fun _ => hHeld5) ?_
  clear hK K
  try simp only [Act.put, List.setIfInBounds_toArray, List.set_cons_zero, List.set_cons_succ]
  refine Till.takeA (i := 11) (oi := { dst := some 6, op := Op.assign (Operand.tmp 17), type := 3, pos := "order.go:29", after := #[{ on := 10, ground := Ground.data }, { on := 10, ground := Ground.chain }, { on := 0, ground := Ground.phase }, { on := 1, ground := Ground.phase }, { on := 2, ground := Ground.phase }, { on := 3, ground := Ground.phase }, { on := 4, ground := Ground.phase }, { on := 5, ground := Ground.phase }, { on := 6, ground := Ground.phase }, { on := 7, ground := Ground.phase }, { on := 8, ground := Ground.phase }, { on := 9, ground := Ground.phase }, { on := 10, ground := Ground.phase }], guard := none }) (v := .int .i64 R) rfl (by kernel_rfl) (by kernel_rfl) (by kernel_rfl) (by rfl) (fun _ _ _ h => h) (Or.inl ⟨by rfl, fun w0 hS0 => ?_⟩) (by assumption) ?_
  · go_simp
  try simp only [Act.put, List.setIfInBounds_toArray, List.set_cons_zero, List.set_cons_succ]
  refine Till.done (by kernel_rfl) ?_
-- TILL 1 END
  go_wp2
  go_ret
  exact ⟨rfl, by rw [HgA.out]; exact HB.out.trans (hHeld5.mono HSz.out)⟩
end Go.Proofs.YtcjbnjoomgagjaaGreatDoor.O
namespace Go.Proofs.YtcjbnjoomgagjaaGreatDoor.O
open Go.Proofs.YtcjbnjoomgagjaaGreatDoor.B
open Go.RowKit
theorem so_dirs {o : Int} {rev dirs : Bool} {a b : Ky} (hd : dirs = true) (hn : a.dir ≠ b.dir) : decide (soC o rev dirs a b < 0) = a.dir := by
  unfold soC thenC dirC
  rw [hd]
  simp only [if_true]
  cases ha : a.dir <;> cases hb : b.dir
  · rw [ha, hb] at hn; exact absurd rfl hn
  · rfl
  · rfl
  · rw [ha, hb] at hn; exact absurd rfl hn
theorem so_same {o : Int} {rev dirs : Bool} {a b : Ky} (hd : dirs = true → a.dir = b.dir) : soC o rev dirs a b = if rev = true then cmpK o b a else cmpK o a b := by
  have h0 : dirC dirs a b = 0 := by
    unfold dirC
    split
    · rename_i q
      rw [hd q]
      exact cmpI_tot.self _
    · rfl
  unfold soC thenC
  rw [if_pos h0]
  rfl
theorem below_at {w a b : World} {g : Nat} (hg : w.heap.size = g) (h : Below g w a) (k : Below a.heap.size a b) : Below w.heap.size w b := by
  subst hg
  exact below_two h k
set_option maxRecDepth 100000 in
set_option maxHeartbeats 8000000 in
theorem pahead_any (o : Int) (rev dirs : Bool) (a b : Ky) (w : World) (ha : a.name.size ≤ 60000) (hb : b.name.size ≤ 60000) :
    Calls Tryz.prog 75 #[.int .i64 o, .bool rev, .bool dirs, kyV a, kyV b] w fun e w' => e = .returned (.bool (decide (soC o rev dirs a b < 0))) ∧ Below w.heap.size w w' := by
  have HCa := Lib.hid (fun W => pcompare_any o a b W ha hb)
  have HCb := Lib.hid (fun W => pcompare_any o b a W hb ha)
  have HD := Lib.hid (fun h h2 => so_dirs (o := o) (rev := rev) (dirs := dirs) (a := a) (b := b) h h2)
  have HS := Lib.hid (fun h => so_same (o := o) (rev := rev) (dirs := dirs) (a := a) (b := b) h)
  generalize soC o rev dirs a b = S at HD HS ⊢
  generalize cmpK o a b = C1 at HCa HS
  generalize cmpK o b a = C2 at HCb HS
  unfold kyV at HCa HCb ⊢
  go_enter Tryz.func75, Tryz.ntmps75
  go_upto_region 1 with fail
  obtain ⟨X1, X2, XB⟩ := two_boxes' w #[.string a.name, .int .i64 a.size, .int .i64 a.time, .bool a.dir] #[.string b.name, .int .i64 b.size, .int .i64 b.time, .bool b.dir] 107
  have HXa := Lib.hid X1
  have HXb := Lib.hid X2
  have HKa := Lib.hid (ky_at X1)
  have HKb := Lib.hid (ky_at X2)
  have HB := Lib.hid XB
  have HSz := Lib.hid XB.size
  clear X1 X2 XB
  generalize (w.alloc (.cells #[.string a.name, .int .i64 a.size, .int .i64 a.time, .bool a.dir] 107)).alloc (.cells #[.string b.name, .int .i64 b.size, .int .i64 b.time, .bool b.dir] 107) = w2 at HXa HXb HKa HKb HB HSz ⊢
  have HgB := Lib.hid (show w.heap.size ≤ w.heap.size + 1 from Nat.le_succ _)
  obtain ⟨gA, hgA⟩ : ∃ g, w.heap.size = g := ⟨_, rfl⟩
  have HgA := Lib.hid hgA
  rw [hgA] at HXa HXb HKa HKb HB HSz HgB ⊢
  clear hgA
  have hne : gA ≠ gA + 1 := by omega
  generalize gA + 1 = gB at HXb HKb HgB hne ⊢
  obtain ⟨a0, a1, a2, a3⟩ := HKa.out w2 (Below.refl _ _)
  obtain ⟨b0, b1, b2, b3⟩ := HKb.out w2 (Below.refl _ _)
  have fa : ∀ j, w2.frozen? ⟨gA, j, none⟩ = false := fun j => frozen_of_row w2 gA j _ _ HXa.out
  have fb : ∀ j, w2.frozen? ⟨gB, j, none⟩ = false := fun j => frozen_of_row w2 gB j _ _ HXb.out
  cases dirs with
  | false =>
    have HS2 := Lib.hid (HS.out (fun z => absurd z (by decide)))
    clear HS HD
    cases rev with
    | false =>
      rw [if_neg (by decide)] at HS2
      go_wp2_with (go_at_call 84; refine (HCa.out _).mono ?_; rintro e w3 ⟨rfl, hb⟩; have HB3 := Lib.hid (HB.out.trans (hb.mono HSz.out)); clear hb)
      go_ret
      exact ⟨ret_bool (by rw [HS2.out]), by rw [HgA.out]; exact HB3.out⟩
    | true =>
      rw [if_pos rfl] at HS2
      have HB8 := Lib.hid ((((((((HB.out.setCell (p := ⟨gA, 0, none⟩) (Nat.le_refl _) (.string b.name)).setCell (p := ⟨gA, 1, none⟩) (Nat.le_refl _) (.int .i64 b.size)).setCell (p := ⟨gA, 2, none⟩) (Nat.le_refl _) (.int .i64 b.time)).setCell (p := ⟨gA, 3, none⟩) (Nat.le_refl _) (.bool b.dir)).setCell (p := ⟨gB, 0, none⟩) HgB.out (.string a.name)).setCell (p := ⟨gB, 1, none⟩) HgB.out (.int .i64 a.size)).setCell (p := ⟨gB, 2, none⟩) HgB.out (.int .i64 a.time)).setCell (p := ⟨gB, 3, none⟩) HgB.out (.bool a.dir))
      go_wp2_with fail
      refine (HCb.out _).mono ?_
      rintro e w3 ⟨rfl, hb⟩
      have HB3 := Lib.hid (below_at HgA.out HB8.out hb)
      clear hb HB8
      go_wp2_with fail
      go_ret
      exact ⟨ret_bool (by rw [HS2.out]), HB3.out⟩
  | true =>
    go_cut [18] from 11 to 18 (fun v18 wx => ∃ D : Bool, v18 = .bool D ∧ Hid (w2 = wx ∧ (D = true → a.dir ≠ b.dir) ∧ (D = false → a.dir = b.dir)))
    case first =>
      have bb : ∀ b : Bool, b = false ∨ b = true := fun b => by cases b <;> simp
      rcases bb a.dir with hxd | hxd
      · have HXd := Lib.hid hxd
        rw [hxd] at a3
        clear hxd
        rcases bb b.dir with hyd | hyd
        · have HYd := Lib.hid hyd
          rw [hyd] at b3
          clear hyd
          go_wp2_with fail
          go_meet
          case rel => exact ⟨false, rfl, Lib.hid ⟨rfl, fun z => absurd z (by decide), fun _ => by rw [HXd.out, HYd.out]⟩⟩
        · have HYd := Lib.hid hyd
          rw [hyd] at b3
          clear hyd
          go_wp2_with fail
          go_meet
          case rel => exact ⟨true, rfl, Lib.hid ⟨rfl, fun _ => (by rw [HXd.out, HYd.out]; decide), fun z => absurd z (by decide)⟩⟩
      · have HXd := Lib.hid hxd
        rw [hxd] at a3
        clear hxd
        rcases bb b.dir with hyd | hyd
        · have HYd := Lib.hid hyd
          rw [hyd] at b3
          clear hyd
          go_wp2_with fail
          go_meet
          case rel => exact ⟨true, rfl, Lib.hid ⟨rfl, fun _ => (by rw [HXd.out, HYd.out]; decide), fun z => absurd z (by decide)⟩⟩
        · have HYd := Lib.hid hyd
          rw [hyd] at b3
          clear hyd
          go_wp2_with fail
          go_meet
          case rel => exact ⟨false, rfl, Lib.hid ⟨rfl, fun z => absurd z (by decide), fun _ => by rw [HXd.out, HYd.out]⟩⟩
    case rest =>
      obtain ⟨D, rfl, hq⟩ := hcut
      obtain ⟨rfl, hq1, hq2⟩ := hq.out
      cases D with
      | true =>
        have HE := Lib.hid (HD.out rfl (hq1 rfl))
        clear hq1 hq2 HS HD
        go_wp2_with fail
        go_ret
        exact ⟨ret_bool HE.out.symm, by rw [HgA.out]; exact HB.out⟩
      | false =>
        have HS2 := Lib.hid (HS.out (fun _ => hq2 rfl))
        clear hq1 hq2 HS HD
        cases rev with
        | false =>
          rw [if_neg (by decide)] at HS2
          go_wp2_with (go_at_call 84; refine (HCa.out _).mono ?_; rintro e w3 ⟨rfl, hb⟩; have HB3 := Lib.hid (HB.out.trans (hb.mono HSz.out)); clear hb)
          go_ret
          exact ⟨ret_bool (by rw [HS2.out]), by rw [HgA.out]; exact HB3.out⟩
        | true =>
          rw [if_pos rfl] at HS2
          have HB8 := Lib.hid ((((((((HB.out.setCell (p := ⟨gA, 0, none⟩) (Nat.le_refl _) (.string b.name)).setCell (p := ⟨gA, 1, none⟩) (Nat.le_refl _) (.int .i64 b.size)).setCell (p := ⟨gA, 2, none⟩) (Nat.le_refl _) (.int .i64 b.time)).setCell (p := ⟨gA, 3, none⟩) (Nat.le_refl _) (.bool b.dir)).setCell (p := ⟨gB, 0, none⟩) HgB.out (.string a.name)).setCell (p := ⟨gB, 1, none⟩) HgB.out (.int .i64 a.size)).setCell (p := ⟨gB, 2, none⟩) HgB.out (.int .i64 a.time)).setCell (p := ⟨gB, 3, none⟩) HgB.out (.bool a.dir))
          go_wp2_with fail
          refine (HCb.out _).mono ?_
          rintro e w3 ⟨rfl, hb⟩
          have HB3 := Lib.hid (below_at HgA.out HB8.out hb)
          clear hb HB8
          go_wp2_with fail
          go_ret
          exact ⟨ret_bool (by rw [HS2.out]), HB3.out⟩
end Go.Proofs.YtcjbnjoomgagjaaGreatDoor.O
namespace Go.Proofs.YtcjbnjoomgagjaaGreatDoor.O
open Go.Proofs.YtcjbnjoomgagjaaGreatDoor.B
open Go.RowKit
def CapAt (W : World) (bo br bd bl : Nat) (o : Int) (rev dirs : Bool) (a : Option Addr) (n cap : Nat) : Prop :=
  W.cell? ⟨bo, 0, none⟩ = some (.int .i64 o) ∧ W.cell? ⟨br, 0, none⟩ = some (.bool rev) ∧ W.cell? ⟨bd, 0, none⟩ = some (.bool dirs) ∧ W.cell? ⟨bl, 0, none⟩ = some (.slice a n cap)
set_option maxRecDepth 100000 in
set_option maxHeartbeats 8000000 in
theorem pclo_any (o : Int) (rev dirs : Bool) (l : List Ky) (a : Option Addr) (cap : Nat) (i k bo br bd bl : Nat) (w : World) (H : IsKeys w a l) (hl : l.length ≤ 1000000) (hz : ∀ c ∈ l, c.name.size ≤ 60000) (hi : i < l.length) (hk : k < l.length)
    (hcl : ∀ W, Below w.heap.size w W → CapAt W bo br bd bl o rev dirs a l.length cap) :
    Calls Tryz.prog 74 #[.int .i64 (i : Int), .int .i64 (k : Int), .pointer (some ⟨bo, 0, none⟩), .pointer (some ⟨br, 0, none⟩), .pointer (some ⟨bd, 0, none⟩), .pointer (some ⟨bl, 0, none⟩)] w fun e w' => e = .returned (.bool (decide (soC o rev dirs (l.getD i noKy) (l.getD k noKy) < 0))) ∧ Below w.heap.size w w' := by
  obtain ⟨x, hx⟩ : ∃ x, l[i]? = some x := ⟨_, List.getElem?_eq_getElem hi⟩
  obtain ⟨y, hy⟩ : ∃ y, l[k]? = some y := ⟨_, List.getElem?_eq_getElem hk⟩
  rw [getD_at hx, getD_at hy]
  have HA := Lib.hid (fun W => pahead_any o rev dirs x y W (hz x (List.mem_of_getElem? hx)) (hz y (List.mem_of_getElem? hy)))
  generalize decide (soC o rev dirs x y < 0) = R at HA ⊢
  obtain ⟨g, of, rfl, hg, hr1⟩ := H.at_ hx
  obtain ⟨g2, of2, e2, _, hr2⟩ := H.at_ hy
  simp only [Option.some.injEq, Addr.mk.injEq] at e2
  obtain ⟨rfl, rfl, _⟩ := e2
  have HRx := Lib.hid (show ∀ W, Below w.heap.size w W → W.cell? ⟨g, of + i * 4, none⟩ = some (.string x.name) ∧ W.cell? ⟨g, of + i * 4 + 1, none⟩ = some (.int .i64 x.size) ∧ W.cell? ⟨g, of + i * 4 + 2, none⟩ = some (.int .i64 x.time) ∧ W.cell? ⟨g, of + i * 4 + 3, none⟩ = some (.bool x.dir) from fun W hb =>
    ⟨(hb.cell (p := ⟨g, _, none⟩) hg).trans (hr1 0 _ rfl), (hb.cell (p := ⟨g, _, none⟩) hg).trans (hr1 1 _ rfl), (hb.cell (p := ⟨g, _, none⟩) hg).trans (hr1 2 _ rfl), (hb.cell (p := ⟨g, _, none⟩) hg).trans (hr1 3 _ rfl)⟩)
  have HRy := Lib.hid (show ∀ W, Below w.heap.size w W → W.cell? ⟨g, of + k * 4, none⟩ = some (.string y.name) ∧ W.cell? ⟨g, of + k * 4 + 1, none⟩ = some (.int .i64 y.size) ∧ W.cell? ⟨g, of + k * 4 + 2, none⟩ = some (.int .i64 y.time) ∧ W.cell? ⟨g, of + k * 4 + 3, none⟩ = some (.bool y.dir) from fun W hb =>
    ⟨(hb.cell (p := ⟨g, _, none⟩) hg).trans (hr2 0 _ rfl), (hb.cell (p := ⟨g, _, none⟩) hg).trans (hr2 1 _ rfl), (hb.cell (p := ⟨g, _, none⟩) hg).trans (hr2 2 _ rfl), (hb.cell (p := ⟨g, _, none⟩) hg).trans (hr2 3 _ rfl)⟩)
  have HC := Lib.hid hcl
  clear hr1 hr2 hx hy hz H hcl
  unfold kyV at HA
  go_enter Tryz.func74, Tryz.ntmps74
  go_upto_region 1 with fail
-- TILL 1
  refine Till.region (z := 1000) (S := fun w' => Below w.heap.size w w') (by kernel_rfl) ((Below.refl _ _).drew) (fun hHeld => ?_)
  refine Till.takeA (i := 0) (oi := { dst := some 9, op := Op.load 3 (Operand.tmp 2), type := 3, pos := "order.go:54", after := #[], guard := none }) (v := .int .i64 o) rfl (by kernel_rfl) (by kernel_rfl) (by kernel_rfl) (by rfl) (fun _ _ _ h => h) (Or.inl ⟨by rfl, fun w0 hS0 => ?_⟩) (by assumption) ?_
  · obtain ⟨r0, r1, r2, r3⟩ := HC.out _ hS0; go_simp
  try simp only [Act.put, List.setIfInBounds_toArray, List.set_cons_zero, List.set_cons_succ]
  refine Till.takeA (i := 1) (oi := { dst := some 10, op := Op.load 4 (Operand.tmp 3), type := 4, pos := "order.go:54", after := #[], guard := none }) (v := .bool rev) rfl (by kernel_rfl) (by kernel_rfl) (by kernel_rfl) (by rfl) (fun _ _ _ h => h) (Or.inl ⟨by rfl, fun w0 hS0 => ?_⟩) (by assumption) ?_
  · obtain ⟨r0, r1, r2, r3⟩ := HC.out _ hS0; go_simp
  try simp only [Act.put, List.setIfInBounds_toArray, List.set_cons_zero, List.set_cons_succ]
  refine Till.takeA (i := 2) (oi := { dst := some 11, op := Op.load 4 (Operand.tmp 4), type := 4, pos := "order.go:54", after := #[], guard := none }) (v := .bool dirs) rfl (by kernel_rfl) (by kernel_rfl) (by kernel_rfl) (by rfl) (fun _ _ _ h => h) (Or.inl ⟨by rfl, fun w0 hS0 => ?_⟩) (by assumption) ?_
  · obtain ⟨r0, r1, r2, r3⟩ := HC.out _ hS0; go_simp
  try simp only [Act.put, List.setIfInBounds_toArray, List.set_cons_zero, List.set_cons_succ]
  refine Till.takeA (i := 3) (oi := { dst := some 12, op := Op.load 105 (Operand.tmp 5), type := 105, pos := "order.go:54", after := #[], guard := none }) (v := .slice (some ⟨g, of, none⟩) l.length cap) rfl (by kernel_rfl) (by kernel_rfl) (by kernel_rfl) (by rfl) (fun _ _ _ h => h) (Or.inl ⟨by rfl, fun w0 hS0 => ?_⟩) (by assumption) ?_
  · obtain ⟨r0, r1, r2, r3⟩ := HC.out _ hS0; go_simp
  try simp only [Act.put, List.setIfInBounds_toArray, List.set_cons_zero, List.set_cons_succ]
  refine Till.takeA (i := 4) (oi := { dst := some 13, op := Op.move (Operand.tmp 0), type := 3, pos := "order.go:54", after := #[], guard := none }) (v := .int .i64 (i : Int)) rfl (by kernel_rfl) (by kernel_rfl) (by kernel_rfl) (by rfl) (fun _ _ _ h => h) (Or.inl ⟨by rfl, fun w0 hS0 => ?_⟩) (by assumption) ?_
  · go_simp
  try simp only [Act.put, List.setIfInBounds_toArray, List.set_cons_zero, List.set_cons_succ]
  refine Till.takeA (i := 5) (oi := { dst := some 14, op := Op.indexAddr 105 (Operand.tmp 12) (Operand.tmp 13), type := 0, pos := "order.go:54", after := #[{ on := 3, ground := Ground.data }, { on := 4, ground := Ground.data }], guard := none }) (v := .pointer (some ⟨g, (of + i * 4), none⟩)) rfl (by kernel_rfl) (by kernel_rfl) (by kernel_rfl) (by rfl) (fun _ _ _ h => h) (Or.inl ⟨by rfl, fun w0 hS0 => ?_⟩) (by assumption) ?_
  · go_simp
  try simp only [Act.put, List.setIfInBounds_toArray, List.set_cons_zero, List.set_cons_succ]
  refine Till.takeA (i := 6) (oi := { dst := some 15, op := Op.load 107 (Operand.tmp 14), type := 107, pos := "order.go:54", after := #[{ on := 5, ground := Ground.data }], guard := none }) (v := .agg #[.string x.name, .int .i64 x.size, .int .i64 x.time, .bool x.dir]) rfl (by kernel_rfl) (by kernel_rfl) (by kernel_rfl) (by rfl) (fun _ _ _ h => h) (Or.inl ⟨by rfl, fun w0 hS0 => ?_⟩) (by assumption) ?_
  · obtain ⟨r0, r1, r2, r3⟩ := HRx.out _ hS0; go_simp
  try simp only [Act.put, List.setIfInBounds_toArray, List.set_cons_zero, List.set_cons_succ]
  refine Till.takeA (i := 7) (oi := { dst := some 16, op := Op.load 105 (Operand.tmp 5), type := 105, pos := "order.go:54", after := #[], guard := none }) (v := .slice (some ⟨g, of, none⟩) l.length cap) rfl (by kernel_rfl) (by kernel_rfl) (by kernel_rfl) (by rfl) (fun _ _ _ h => h) (Or.inl ⟨by rfl, fun w0 hS0 => ?_⟩) (by assumption) ?_
  · obtain ⟨r0, r1, r2, r3⟩ := HC.out _ hS0; go_simp
  try simp only [Act.put, List.setIfInBounds_toArray, List.set_cons_zero, List.set_cons_succ]
  refine Till.takeA (i := 8) (oi := { dst := some 17, op := Op.move (Operand.tmp 1), type := 3, pos := "order.go:54", after := #[], guard := none }) (v := .int .i64 (k : Int)) rfl (by kernel_rfl) (by kernel_rfl) (by kernel_rfl) (by rfl) (fun _ _ _ h => h) (Or.inl ⟨by rfl, fun w0 hS0 => ?_⟩) (by assumption) ?_
  · go_simp
  try simp only [Act.put, List.setIfInBounds_toArray, List.set_cons_zero, List.set_cons_succ]
  refine Till.takeA (i := 9) (oi := { dst := some 18, op := Op.indexAddr 105 (Operand.tmp 16) (Operand.tmp 17), type := 0, pos := "order.go:54", after := #[{ on := 7, ground := Ground.data }, { on := 8, ground := Ground.data }], guard := none }) (v := .pointer (some ⟨g, (of + k * 4), none⟩)) rfl (by kernel_rfl) (by kernel_rfl) (by kernel_rfl) (by rfl) (fun _ _ _ h => h) (Or.inl ⟨by rfl, fun w0 hS0 => ?_⟩) (by assumption) ?_
  · go_simp
  try simp only [Act.put, List.setIfInBounds_toArray, List.set_cons_zero, List.set_cons_succ]
  refine Till.takeA (i := 10) (oi := { dst := some 19, op := Op.load 107 (Operand.tmp 18), type := 107, pos := "order.go:54", after := #[{ on := 9, ground := Ground.data }], guard := none }) (v := .agg #[.string y.name, .int .i64 y.size, .int .i64 y.time, .bool y.dir]) rfl (by kernel_rfl) (by kernel_rfl) (by kernel_rfl) (by rfl) (fun _ _ _ h => h) (Or.inl ⟨by rfl, fun w0 hS0 => ?_⟩) (by assumption) ?_
  · obtain ⟨r0, r1, r2, r3⟩ := HRy.out _ hS0; go_simp
  try simp only [Act.put, List.setIfInBounds_toArray, List.set_cons_zero, List.set_cons_succ]
  refine Till.next (i := 11) (o := { dst := some 20, op := Op.call { callee := Callee.value (Operand.func 75), args := #[Operand.tmp 9, Operand.tmp 10, Operand.tmp 11, Operand.tmp 15, Operand.tmp 19], argTypes := #[3, 4, 4, 107, 107] }, type := 4, pos := "order.go:54", after := #[{ on := 0, ground := Ground.data }, { on := 1, ground := Ground.data }, { on := 2, ground := Ground.data }, { on := 6, ground := Ground.data }, { on := 10, ground := Ground.data }], guard := none }) (by kernel_rfl) rfl (fun K hK => ?_)
  go_simp
  refine (HA.out _).mono ?_
  rintro e w3 ⟨rfl, hb3⟩
  have hHeld3 : Below w.heap.size w w3 := below_two hHeld hb3
  clear hb3
  go_wp2_with fail
  refine hK.out _ _ (fun _ => hHeld3) ?_
  clear hK K
  try simp only [Act.put, List.setIfInBounds_toArray, List.set_cons_zero, List.set_cons_succ]
  refine Till.takeA (i := 12) (oi := { dst := some 8, op := Op.assign (Operand.tmp 20), type := 4, pos := "order.go:54", after := #[{ on := 11, ground := Ground.data }, { on := 11, ground := Ground.chain }, { on := 0, ground := Ground.phase }, { on := 1, ground := Ground.phase }, { on := 2, ground := Ground.phase }, { on := 3, ground := Ground.phase }, { on := 4, ground := Ground.phase }, { on := 5, ground := Ground.phase }, { on := 6, ground := Ground.phase }, { on := 7, ground := Ground.phase }, { on := 8, ground := Ground.phase }, { on := 9, ground := Ground.phase }, { on := 10, ground := Ground.phase }, { on := 11, ground := Ground.phase }], guard := none }) (v := .bool R) rfl (by kernel_rfl) (by kernel_rfl) (by kernel_rfl) (by rfl) (fun _ _ _ h => h) (Or.inl ⟨by rfl, fun w0 hS0 => ?_⟩) (by assumption) ?_
  · go_simp
  try simp only [Act.put, List.setIfInBounds_toArray, List.set_cons_zero, List.set_cons_succ]
  refine Till.done (by kernel_rfl) ?_
-- TILL 1 END
  go_wp2
  go_ret
  exact ⟨rfl, hHeld3⟩
end Go.Proofs.YtcjbnjoomgagjaaGreatDoor.O
namespace Go.Proofs.YtcjbnjoomgagjaaGreatDoor.O
open Go.Proofs.YtcjbnjoomgagjaaGreatDoor.B
open Go.RowKit
theorem infoInt : (Tryz.prog.info? 3).map (fun i => (i.zero, i.size, i.bytes)) = some (some (.int .i64 0), 1, 8) := by kernel_rfl
def ints (V : List Int) : List Value := V.map (Value.int .i64)
end Go.Proofs.YtcjbnjoomgagjaaGreatDoor.O
namespace Go.Proofs.YtcjbnjoomgagjaaGreatDoor.O
open Go.Proofs.YtcjbnjoomgagjaaGreatDoor.B
open Go.RowKit
structure Cfg where
  w0 : World
  o : Int
  rev : Bool
  dirs : Bool
  l : List Ky
  a : Option Addr
  cap : Nat
  bo : Nat
  br : Nat
  bd : Nat
  bl : Nat
  gp : Nat
  bp : Nat
  bc : Nat
  gs : Nat
  bs : Nat
  ba : Nat
def Box (W : World) (k : Nat) (v : Value) : Prop := ∃ t, W.heap[k]? = some (.cells #[v] t (0, 0))
theorem Box.cell {W : World} {k : Nat} {v : Value} (h : Box W k v) : W.cell? ⟨k, 0, none⟩ = some v := by
  obtain ⟨t, h⟩ := h
  rw [cell_of_row _ _ _ _ _ _ h]
  rfl
theorem Box.at_ {W W' : World} {k : Nat} {v : Value} (h : Box W k v) (e : W'.heap[k]? = W.heap[k]?) : Box W' k v := h.elim fun t h => ⟨t, e.trans h⟩
theorem Box.keep {W W' : World} {k : Nat} {v : Value} (h : Box W k v) (hb : Below W.heap.size W W') : Box W' k v := h.at_ (hb.block _ (h.elim fun _ h => heap_lt h))
def natsV (Z : List Nat) : List Value := Z.map fun i : Nat => .int .i64 (i : Int)
theorem natsV_len (Z : List Nat) : (natsV Z).length = Z.length := by unfold natsV; rw [List.length_map]
theorem natsV_get {Z : List Nat} {k x : Nat} (h : Z[k]? = some x) : (natsV Z)[k]? = some (.int .i64 (x : Int)) := by
  unfold natsV
  rw [List.getElem?_map, h]
  rfl
theorem natsV_ints (Z : List Nat) : natsV Z = ints (Z.map fun i : Nat => (i : Int)) := by
  unfold natsV ints
  rw [List.map_map]
  rfl
def cloV (C : Cfg) : Value := .func (.func 74) #[] #[.pointer (some ⟨C.bo, 0, none⟩), .pointer (some ⟨C.br, 0, none⟩), .pointer (some ⟨C.bd, 0, none⟩), .pointer (some ⟨C.bl, 0, none⟩)]
def arrV (C : Cfg) : Value := .func (.func 76) #[] #[.pointer (some ⟨C.ba, 0, none⟩), .pointer (some ⟨C.bs, 0, none⟩), .pointer (some ⟨C.bp, 0, none⟩), .pointer (some ⟨C.bc, 0, none⟩)]
structure CfgOK (C : Cfg) : Prop where
  ne : C.gp ≠ C.gs
  np : C.bo ≠ C.gp ∧ C.br ≠ C.gp ∧ C.bd ≠ C.gp ∧ C.bl ≠ C.gp ∧ C.bp ≠ C.gp ∧ C.bc ≠ C.gp ∧ C.bs ≠ C.gp ∧ C.ba ≠ C.gp
  ns : C.bo ≠ C.gs ∧ C.br ≠ C.gs ∧ C.bd ≠ C.gs ∧ C.bl ≠ C.gs ∧ C.bp ≠ C.gs ∧ C.bc ≠ C.gs ∧ C.bs ≠ C.gs ∧ C.ba ≠ C.gs
  hp : C.w0.heap.size ≤ C.gp
  hs : C.w0.heap.size ≤ C.gs
  keys : IsKeys C.w0 C.a C.l
  few : C.l.length ≤ 1000
  small : ∀ c ∈ C.l, c.name.size ≤ 60000
structure SI (C : Cfg) (Z X : List Nat) (W : World) : Prop where
  low : Below C.w0.heap.size C.w0 W
  xo : Box W C.bo (.int .i64 C.o)
  xr : Box W C.br (.bool C.rev)
  xd : Box W C.bd (.bool C.dirs)
  xl : Box W C.bl (.slice C.a C.l.length C.cap)
  xp : Box W C.bp (.slice (some ⟨C.gp, 0, none⟩) C.l.length C.l.length)
  xc : Box W C.bc (cloV C)
  xs : Box W C.bs (.slice (some ⟨C.gs, 0, none⟩) C.l.length C.l.length)
  xa : Box W C.ba (arrV C)
  pl : W.heap[C.gp]? = some (.cells (natsV Z).toArray 3 (0, 0))
  sp : W.heap[C.gs]? = some (.cells (natsV X).toArray 3 (0, 0))
  lz : Z.length = C.l.length
  lx : X.length = C.l.length
theorem SI.keep {C : Cfg} {Z X : List Nat} {W W' : World} (h : SI C Z X W) (hb : Below W.heap.size W W') : SI C Z X W' :=
  ⟨below_two h.low hb, h.xo.keep hb, h.xr.keep hb, h.xd.keep hb, h.xl.keep hb, h.xp.keep hb, h.xc.keep hb, h.xs.keep hb, h.xa.keep hb, (hb.block _ (heap_lt h.pl)).trans h.pl, (hb.block _ (heap_lt h.sp)).trans h.sp, h.lz, h.lx⟩
theorem SI.place {C : Cfg} {Z X : List Nat} {W : World} (h : SI C Z X W) {j x : Nat} (hj : Z[j]? = some x) : W.cell? ⟨C.gp, j, none⟩ = some (.int .i64 (x : Int)) := by
  rw [cell_of_row _ _ _ _ _ _ h.pl, List.getElem?_toArray]
  exact natsV_get hj
theorem SI.spare {C : Cfg} {Z X : List Nat} {W : World} (h : SI C Z X W) {j x : Nat} (hj : X[j]? = some x) : W.cell? ⟨C.gs, j, none⟩ = some (.int .i64 (x : Int)) := by
  rw [cell_of_row _ _ _ _ _ _ h.sp, List.getElem?_toArray]
  exact natsV_get hj
theorem SI.setP {C : Cfg} {Z X : List Nat} {W : World} (k : CfgOK C) (h : SI C Z X W) (j v : Nat) : SI C (Z.set j v) X (W.setCell ⟨C.gp, j, none⟩ (.int .i64 (v : Int))) := by
  obtain ⟨n1, n2, n3, n4, n5, n6, n7, n8⟩ := k.np
  have f : ∀ b, b ≠ C.gp → (W.setCell ⟨C.gp, j, none⟩ (.int .i64 (v : Int))).heap[b]? = W.heap[b]? := fun b hb => heap_setCell_other _ _ _ _ hb
  refine ⟨h.low.setCell (p := ⟨C.gp, j, none⟩) k.hp _, h.xo.at_ (f _ n1), h.xr.at_ (f _ n2), h.xd.at_ (f _ n3), h.xl.at_ (f _ n4), h.xp.at_ (f _ n5), h.xc.at_ (f _ n6), h.xs.at_ (f _ n7), h.xa.at_ (f _ n8), ?_, (f _ (Ne.symm k.ne)).trans h.sp, by rw [List.length_set]; exact h.lz, h.lx⟩
  rw [heap_setCell_same _ _ _ _ _ _ h.pl]
  congr 2
  unfold natsV
  rw [List.setIfInBounds_toArray, List.map_set]
theorem SI.setS {C : Cfg} {Z X : List Nat} {W : World} (k : CfgOK C) (h : SI C Z X W) (off : Nat) (cs : List Nat) (hf : off + cs.length ≤ C.l.length) : SI C Z (splice X off cs) (W.setRow C.gs ((natsV X).take off ++ (natsV cs ++ (natsV X).drop (off + (natsV cs).length))).toArray) := by
  obtain ⟨n1, n2, n3, n4, n5, n6, n7, n8⟩ := k.ns
  have f : ∀ b, b ≠ C.gs → (W.setRow C.gs ((natsV X).take off ++ (natsV cs ++ (natsV X).drop (off + (natsV cs).length))).toArray).heap[b]? = W.heap[b]? := fun b hb => setRow_other _ _ _ _ hb
  refine ⟨below_setRow h.low k.hs _, h.xo.at_ (f _ n1), h.xr.at_ (f _ n2), h.xd.at_ (f _ n3), h.xl.at_ (f _ n4), h.xp.at_ (f _ n5), h.xc.at_ (f _ n6), h.xs.at_ (f _ n7), h.xa.at_ (f _ n8), (f _ k.ne).trans h.pl, ?_, h.lz, by rw [length_splice _ _ _ (by rw [h.lx]; exact hf)]; exact h.lx⟩
  rw [setRow_heap _ _ _ _ _ _ h.sp]
  congr 2
  unfold splice natsV
  rw [List.map_append, List.map_append, List.map_take, List.map_drop, List.length_map]
theorem SI.clo {C : Cfg} {Z X : List Nat} {W : World} (k : CfgOK C) (h : SI C Z X W) {y x : Nat} (hy : y < C.l.length) (hx : x < C.l.length) :
    Calls Tryz.prog 74 #[.int .i64 (y : Int), .int .i64 (x : Int), .pointer (some ⟨C.bo, 0, none⟩), .pointer (some ⟨C.br, 0, none⟩), .pointer (some ⟨C.bd, 0, none⟩), .pointer (some ⟨C.bl, 0, none⟩)] W fun e w' => e = .returned (.bool (decide (soC C.o C.rev C.dirs (C.l.getD y noKy) (C.l.getD x noKy) < 0))) ∧ Below W.heap.size W w' := by
  have f := k.few
  exact pclo_any C.o C.rev C.dirs C.l C.a C.cap y x C.bo C.br C.bd C.bl W (k.keys.keep h.low) (by omega) k.small hy hx (fun W' hb => ⟨(h.xo.keep hb).cell, (h.xr.keep hb).cell, (h.xd.keep hb).cell, (h.xl.keep hb).cell⟩)
theorem splice_get {α : Type} {X cs : List α} {off k : Nat} {x : α} (hl : off ≤ X.length) (hk : cs[k]? = some x) : (splice X off cs)[off + k]? = some x := by
  unfold splice
  have hlt := (List.getElem?_eq_some_iff.1 hk).1
  rw [List.getElem?_append_right (by rw [List.length_take]; omega), List.length_take, show off + k - min off X.length = k by omega, List.getElem?_append_left hlt, hk]
theorem step_copy_row {P : Program} {ops : Array Oper} {o : Oper} {a : Act} {w : World} {K : Act → World → Prop} {Q : Exit → Act → World → Prop} {E : Prop} (hgd : o.guard = none) (d s : Operand) (dT sT : TypeId)
    (ho : o.op = .call { callee := .builtin .copy, args := #[d, s], argTypes := #[dT, sT] }) (elem : TypeId) (hu : P.underlying dT = some (.slice elem)) (hsz : (P.info? elem).map (·.size) = some 1)
    (g off dLen dCap : Nat) (ad : Addr) (sLen sCap : Nat) (hd : a.eval d = .slice (some ⟨g, off, none⟩) dLen dCap) (hs : a.eval s = .slice (some ad) sLen sCap)
    (cur : List Value) (t : TypeId) (hg : w.heap[g]? = some (.cells cur.toArray t (0, 0))) (cs : List Value) (hn : cs.length = Nat.min sLen dLen)
    (hsrc : ∀ j v, cs[j]? = some v → w.cell? (ad.add j) = some v) (hfit : off + cs.length ≤ cur.length) (h1 : ∀ v ∈ cs, v.oneCell' = true)
    (h : K (a.put o.dst (goInt cs.length)) (w.setRow g (cur.take off ++ (cs ++ cur.drop (off + cs.length))).toArray)) :
    if Region.wanted o (yielded ops a.tmps) = true then Oper.wp P o a w K Q else E := by
  have hw : Region.wanted o (yielded ops a.tmps) = true := by simp [Region.wanted, hgd]
  rw [if_pos hw]
  have hrun := run_copy_row (P := P) w dT sT o.type elem g off dLen dCap ad sLen sCap cur.toArray t cs hu hsz hg hn hsrc (by simpa using hfit) h1
  unfold Oper.wp
  simp [execOp, ho, resolve, invoke, builtin, hd, hs, hrun, Result.andThen]
  exact h
end Go.Proofs.YtcjbnjoomgagjaaGreatDoor.O
