/-
  What the program's rows with commas are; and the rows in columns, and their number, as asked. Conditions: at most 1000 names of at most 4000 bytes, in memory; the package's table lies as its text lays it.
-/
import Derived.Test.YtemnbleacjpfcaaDoorLLay
import Derived.Laws.AppendOwn
import Derived.Deep.AppendLies
set_option linter.unusedVariables false
namespace Go.Proofs.YtemnbleacjpfcaaDoor.L
open Go.Proofs.YtemnbleacjpfcaaDoor.W hiding ret_int below_two
open Go.Proofs.YtemnbleacjpfcaaDoor.N hiding ret_int
open Go.Proofs.YtemnbleacjpfcaaDoor.B
open Go.RowKit

/-! ### a builder alone -/
def OneB (B b : Nat) (cur : ByteArray) (W : World) : Prop := ∃ T V, T 0 = cur ∧ Blds B b 1 T V W
theorem OneB.keep {B b : Nat} {cur : ByteArray} {W W' : World} (h : OneB B b cur W) (hb : Below W.heap.size W W') : OneB B b cur W' := by
  obtain ⟨T, V, h1, h2⟩ := h
  exact ⟨T, V, h1, h2.keep hb⟩
theorem OneB.lt {B b : Nat} {cur : ByteArray} {W : World} (h : OneB B b cur W) : B ≤ b ∧ b < W.heap.size := by
  obtain ⟨T, V, h1, h2⟩ := h
  exact ⟨h2.lo, h2.lt⟩
theorem OneB.made (W0 : World) : OneB W0.heap.size W0.heap.size ByteArray.empty (W0.alloc (.cells #[.pointer none, .slice none 0 0] 42)) := ⟨_, _, rfl, Blds.alone W0⟩
theorem one_write {B b : Nat} {cur : ByteArray} {w : World} (h : OneB B b cur w) (s : ByteArray) (hz : cur.size + s.size ≤ 1000000000) :
    Calls Tryd.prog 22 #[.pointer (some ⟨b, 0, none⟩), .string s] w fun e w' => (∃ v, e = .returned v) ∧ OneB B b (cur ++ s) w' ∧ Below B w w' ∧ Lib.OthersKept 5 (some b) w w' := by
  obtain ⟨T, V, rfl, h2⟩ := h
  refine (write_any h2 (i := 0) (o := 0) (by decide) rfl s hz).mono ?_
  rintro e w' ⟨hv, ⟨V', hV⟩, hb, hk⟩
  exact ⟨hv, ⟨_, V', upd_here _ _ _, hV⟩, hb, hk⟩
theorem one_text {B b : Nat} {cur : ByteArray} {w : World} (h : OneB B b cur w) (hz : cur.size ≤ 2000000000) :
    Calls Tryd.prog 23 #[.pointer (some ⟨b, 0, none⟩)] w fun e w' => e = .returned (.string cur) ∧ OneB B b cur w' ∧ Below B w w' ∧ Lib.OthersKept 5 (some b) w w' := by
  obtain ⟨T, V, rfl, h2⟩ := h
  refine (text_any h2 (i := 0) (o := 0) (by decide) rfl hz).mono ?_
  rintro e w' ⟨rfl, hV, hb, hk⟩
  exact ⟨rfl, ⟨_, V, rfl, hV⟩, hb, hk⟩
theorem one_reset {B b : Nat} {cur : ByteArray} {w : World} (h : OneB B b cur w) :
    Calls Tryd.prog 24 #[.pointer (some ⟨b, 0, none⟩)] w fun e w' => e = .returned (.tuple #[]) ∧ OneB B b ByteArray.empty w' ∧ Below B w w' ∧ Lib.OthersKept 5 (some b) w w' := by
  obtain ⟨T, V, rfl, h2⟩ := h
  refine (reset_any h2 (i := 0) (o := 0) (by decide) rfl).mono ?_
  rintro e w' ⟨rfl, ⟨V', hV⟩, hb, hk⟩
  exact ⟨rfl, ⟨_, V', upd_here _ _ _, hV⟩, hb, hk⟩
/-- What is appended to a row of another type turns no builder. -/
theorem one_grown {B b : Nat} {cur : ByteArray} {W W' : World} (h : OneB B b cur W) {base : Nat} {e : TypeId} {v : Value} {n : Nat} {xs : List Value} (hr : W.ownsRow base e 1 v n xs) (h1 : e ≠ 42) (h2 : e ≠ 5) (hg : W.grownBy W' v.ownBlock) : OneB B b cur W' := by
  obtain ⟨T, V, h0, q⟩ := h
  refine ⟨T, V, h0, q.at_ (hg.block b q.lt (fun z => row_apart hr q h1 z.symm)) fun i hi k hk => hg.block k ((q.own i hi).lt k hk).2 fun z => ?_⟩
  obtain ⟨c, fz, hc⟩ := Lib.ownsRowF_kind (q.own i hi) k hk
  obtain ⟨cur2, hcur⟩ := owns_type hr z.symm
  rw [hcur] at hc
  simp only [Option.some.injEq, Obj.cells.injEq] at hc
  exact h2 hc.2.1
theorem one_apart {B b : Nat} {cur : ByteArray} {W : World} (h : OneB B b cur W) {base : Nat} {e : TypeId} {v : Value} {n : Nat} {xs : List Value} (hr : W.ownsRow base e 1 v n xs) (h1 : e ≠ 42) : v.ownBlock ≠ some b := by
  obtain ⟨T, V, h0, q⟩ := h
  exact row_apart hr q h1

/-! ### the model, step by step -/
theorem com_first (l : List ByteArray) (most : Int) : comS l most (0 + 1) = ([], comItem l 0) := by
  rw [comS, if_pos rfl]
  rfl
theorem com_more {l : List ByteArray} {most : Int} {i : Nat} (h0 : i ≠ 0) (h : most ≤ 0 ∨ wd (comS l most i).2 0 + 1 + wd (comItem l i) 0 ≤ most) : comS l most (i + 1) = ((comS l most i).1, (comS l most i).2 ++ (⟨#[32]⟩ ++ comItem l i)) := by
  rw [comS, if_neg h0, if_pos h]
theorem com_else {l : List ByteArray} {most : Int} {i : Nat} (h0 : i ≠ 0) (h : ¬(most ≤ 0 ∨ wd (comS l most i).2 0 + 1 + wd (comItem l i) 0 ≤ most)) : comS l most (i + 1) = ((comS l most i).1 ++ [(comS l most i).2], comItem l i) := by
  rw [comS, if_neg h0, if_neg h]
theorem com_bound {most a b : Int} (ha : 0 ≤ a) (hb : 0 ≤ b) (ha2 : a ≤ 1000000000) (hb2 : b ≤ 1000000000) : (a + 1 + b ≤ boundZ most) ↔ (most ≤ 0 ∨ a + 1 + b ≤ most) := by
  unfold boundZ
  split <;> omega
theorem strs_add (R : List ByteArray) (s : ByteArray) : strs R ++ [.string s] = strs (R ++ [s]) := by
  unfold strs
  rw [List.map_append]
  rfl
def ComRel (l : List ByteArray) (most : Int) (n b : Nat) (w : World) (t x v : Value) (wr : World) : Prop :=
  ∃ (i : Nat) (z : Int), i ≤ n ∧ v = .int .i64 (i : Int) ∧ x = .int .i64 z ∧ Hid (z = wd (comS l most i).2 0) ∧ Hid (wr.ownsRow w.heap.size 9 1 t (comS l most i).1.length (strs (comS l most i).1)) ∧ Hid (OneB w.heap.size b (comS l most i).2 wr) ∧ Hid (Below w.heap.size w wr)
set_option maxRecDepth 100000 in
set_option maxHeartbeats 16000000 in
theorem commas_any (l : List ByteArray) (a : Option Addr) (cap : Nat) (most : Int) (w : World) (H : InL w a l) (hl : l.length ≤ 1000) (hz : ∀ x ∈ l, x.size ≤ 4000) (ht : Tab w) :
    Calls Tryd.prog 11 #[.slice a l.length cap, .int .i64 most] w fun e w' => ∃ v, e = .returned v ∧ w'.ownsRow w.heap.size 9 1 v (commasL l most).length (strs (commasL l most)) ∧ Below w.heap.size w w' := by
  obtain ⟨is, his, hs0, hs1, hs2⟩ := info_parts infoStr
  have HX := Lib.hid H
  have HZ := Lib.hid hz
  have HT := Lib.hid ht
  have HSz := Lib.hid (fun i (hi : i ≤ l.length) => com_size (l := l) (most := most) (k := 4000) hz i hi)
  clear H hz ht
  obtain ⟨n, hn⟩ : ∃ n, l.length = n := ⟨_, rfl⟩
  have HN := Lib.hid hn
  have HE := Lib.hid (show commasL l most = if n = 0 then [] else (comS l most n).1 ++ [(comS l most n).2] from by rw [← hn]; rfl)
  rw [hn] at hl HSz ⊢
  clear hn
  generalize commasL l most = L at *
  go_enter Tryd.func11, Tryd.ntmps11
  go_wp2_with fail
  refine (bound_any most _).mono ?_
  rintro e w2 ⟨rfl, rfl⟩
  go_upto_region 4 with fail
  have HO := Lib.hid (OneB.made w)
  have HB := Lib.hid ((Below.refl w.heap.size w).alloc (Nat.le_refl _) (.cells #[.pointer none, .slice none 0 0] 42))
  generalize w.alloc (.cells #[.pointer none, .slice none 0 0] 42) = w1 at *
  have hsz1 : w.heap.size ≤ w1.heap.size := HB.out.size
  go_wp2_with fail
  go_loopw [5, 7, 15] (ComRel l most n w.heap.size w) (fun _ _ v _ => n - (intOf v).toNat)
  case atStart => exact ⟨0, 0, Nat.zero_le _, rfl, rfl, Lib.hid wd_nil.symm, Lib.hid (World.ownsRow_nil _ _ _ _), HO, HB⟩
  case round =>
    clear HO HB hsz1
    obtain ⟨i, z, hi, rfl, rfl, Hz, HR, HO, HB⟩ := hrel
    obtain ⟨z1, z2, z3⟩ := HSz.out i hi
    have hcb := wd_bd (comS l most i).2 0
    by_cases hin : i < n
    · have e1 : decide ((i : Int) < (n : Int)) = true := decide_eq_true (by omega)
      have hil : i < l.length := by rw [HN.out]; exact hin
      rcases HX.out.keep HB.out with q | ⟨b, off, rfl, hcs⟩
      · omega
      have hcell := hcs i hil
      clear hcs
      have hsz := HZ.out _ (atL_mem hil)
      have hisz := item_size (l := l) (i := i) (k := 4000) hil HZ.out
      have hib := wd_bd (comItem l i) 0
      have HI := Lib.hid (show comItem l i = if i + 1 < n then atL l i ++ ⟨#[44]⟩ else atL l i from by rw [← HN.out]; rfl)
      have HF := Lib.hid (show i = 0 → comS l most (i + 1) = ([], comItem l i) ∧ comS l most i = ([], ByteArray.empty) from fun h => by subst h; exact ⟨com_first l most, rfl⟩)
      have HMo := Lib.hid (fun h0 h => com_more (l := l) (most := most) (i := i) h0 h)
      have HEl := Lib.hid (fun h0 h => com_else (l := l) (most := most) (i := i) h0 h)
      have HOf := Lib.hid (fun W (hb : Below w.heap.size w W) => of_any (comItem l i) W (by omega) (HT.out.keep hb))
      have HCb := Lib.hid (com_bound (most := most) (a := wd (comS l most i).2 0) (b := wd (comItem l i) 0) hcb.1 hib.1 (by omega) (by omega))
      have hadd := fun (W : World) => run_string_add_sum (P := Tryd.prog) W (atL l i) ⟨#[44]⟩ (by show _ + 1 ≤ _; omega)
      obtain ⟨S, hS⟩ : ∃ S, comS l most i = S := ⟨_, rfl⟩
      rw [hS] at z1 z2 z3 hcb HF HMo HEl HCb Hz HR HO
      clear hS
      obtain ⟨R, C⟩ := S
      dsimp only at z1 z2 z3 hcb HF HMo HEl HCb Hz HR HO
      have hRl : R.length ≤ 1000 := by omega
      have hCz : C.size ≤ 5000000 := by omega
      have HW3 := Lib.hid (wd_three C (comItem l i) 32 (by decide) blank_one)
      generalize comItem l i = I at *
      generalize hOI : wd I 0 = O at *
      have HOI := Lib.hid hOI
      clear hOI
      rw [← Hz.out] at hcb HCb HW3 HMo HEl
      have hO1 : 0 ≤ O ∧ O ≤ 10000 := by omega
      have hz1 : 0 ≤ z ∧ z ≤ 10000000 := by omega
      clear hib hcb z1 z2 z3
      rcases Decidable.em (i + 1 < n) with hc | hc
      case' inl =>
        rw [if_pos hc] at HI
        have d1 : decide ((i : Int) < (n : Int) - 1) = true := decide_eq_true (by omega)
        go_wp2_with fail
      case' inr =>
        rw [if_neg hc] at HI
        have d1 : decide ((i : Int) < (n : Int) - 1) = false := decide_eq_false (by omega)
        go_wp2_with fail
      all_goals
        rw [← HI.out]
        refine (HOf.out wr HB.out).mono ?_
        rintro e w2 ⟨rfl, hb2⟩
        have HB2 := Lib.hid (below_two HB.out hb2)
        have HO2 := Lib.hid (HO.out.keep hb2)
        have HR2 := Lib.hid (owns_to HR.out hb2)
        clear hb2 hcell hadd d1
        by_cases h0 : i = 0
        · have d2 : ((i : Int) == 0) = true := beq_iff_eq.2 (by omega)
          obtain ⟨q1, q2⟩ := HF.out h0
          have hR0 : R = [] := congrArg Prod.fst q2
          have hC0 : C = ByteArray.empty := congrArg Prod.snd q2
          have HQ := Lib.hid q1
          clear q1 q2
          subst hR0 hC0
          go_wp2_with fail
          refine (one_write HO2.out I (by omega)).mono ?_
          rintro e w3 ⟨⟨v3, rfl⟩, ho, hb, hk⟩
          rw [nil_app] at ho
          have HO3 := Lib.hid ho
          have HB3 := Lib.hid (HB2.out.trans hb)
          have HR3 := Lib.hid (others_row HR2.out hk (by decide) (one_apart HO2.out HR2.out (by decide)))
          clear ho hb hk
          go_wp2_with fail
          go_roundw
          case rel => exact ⟨i + 1, O, by omega, by go_num, rfl, by rw [HQ.out]; exact Lib.hid HOI.out.symm, by rw [HQ.out]; exact HR3, by rw [HQ.out]; exact HO3, HB3⟩
          case measure => simp [intOf]; omega
        · have d2 : ((i : Int) == 0) = false := beq_eq_false_iff_ne.2 (by omega)
          by_cases hf : z + 1 + O ≤ boundZ most
          · have d3 : decide (z + 1 + O ≤ boundZ most) = true := decide_eq_true hf
            have HQ := Lib.hid (HMo.out h0 (HCb.out.1 hf))
            go_wp2_with fail
            refine (one_write HO2.out ⟨#[32]⟩ (by show _ + 1 ≤ _; omega)).mono ?_
            rintro e w3 ⟨⟨v3, rfl⟩, ho, hb, hk⟩
            have HO3 := Lib.hid ho
            have HB3 := Lib.hid (HB2.out.trans hb)
            have HR3 := Lib.hid (others_row HR2.out hk (by decide) (one_apart HO2.out HR2.out (by decide)))
            clear ho hb hk
            go_wp2_with fail
            refine (one_write HO3.out I (by rw [app_size]; show _ + 1 + _ ≤ _; omega)).mono ?_
            rintro e w4 ⟨⟨v4, rfl⟩, ho, hb, hk⟩
            rw [bytes_assoc] at ho
            have HO4 := Lib.hid ho
            have HB4 := Lib.hid (HB3.out.trans hb)
            have HR4 := Lib.hid (others_row HR3.out hk (by decide) (one_apart HO3.out HR3.out (by decide)))
            clear ho hb hk
            go_wp2_with fail
            go_roundw
            case rel => exact ⟨i + 1, z + (1 + O), by omega, by go_num, by go_num, by rw [HQ.out]; exact Lib.hid (show z + (1 + O) = wd (C ++ (⟨#[32]⟩ ++ I)) 0 from by have := HW3.out; omega), by rw [HQ.out]; exact HR4, by rw [HQ.out]; exact HO4, HB4⟩
            case measure => simp [intOf]; omega
          · have d3 : decide (z + 1 + O ≤ boundZ most) = false := decide_eq_false hf
            have HQ := Lib.hid (HEl.out h0 (fun q => hf (HCb.out.2 q)))
            go_wp2_with fail
            refine (one_text HO2.out (by omega)).mono ?_
            rintro e w3 ⟨rfl, ho, hb, hk⟩
            have HO3 := Lib.hid ho
            have HB3 := Lib.hid (HB2.out.trans hb)
            have HR3 := Lib.hid (others_row HR2.out hk (by decide) (one_apart HO2.out HR2.out (by decide)))
            clear ho hb hk
            go_wp2_with (at_builtin; go_loud (refine wpList_append_own _ rfl (.tmp 29) (.tmp 31) 22 rfl w.heap.size 9 is (.string ⟨#[]⟩) 1 16 Tryd.underlying22 his hs0 hs1 hs2 rfl (by decide) _ _ _ rfl (HR3.out.alloc _) ⟨w3.heap.size, 0, none⟩ 1 1 [.string C] rfl rfl (World.news_of_block (heap_alloc_new _ _)) (by intro u hu; simp at hu; subst hu; rfl) (by unfold maxLen; omega) (by omega) (by have := HB3.out.size; simp; omega) ?_; intro v5 w5 hown hgrow hnil))
            rw [strs_add] at hown
            have hal : Below w3.heap.size w3 (w3.alloc (.cells #[.string C] 9)) := (Below.refl _ _).alloc (Nat.le_refl _) _
            have HR5 := Lib.hid (show w5.ownsRow w.heap.size 9 1 v5 (R ++ [C]).length (strs (R ++ [C])) from by rw [List.length_append]; exact hown)
            have HO5 := Lib.hid (one_grown (HO3.out.keep hal) (owns_to HR3.out hal) (by decide) (by decide) hgrow)
            have HB5 := Lib.hid ((HB3.out.alloc HB3.out.size (.cells #[.string C] 9)).grown hgrow (Nat.le_trans HB3.out.size hal.size) (fun k hk => (HR3.out.lt k hk).1))
            clear hown hgrow hnil hal
            refine (one_reset HO5.out).mono ?_
            rintro e w6 ⟨rfl, ho, hb, hk⟩
            have HO6 := Lib.hid ho
            have HB6 := Lib.hid (HB5.out.trans hb)
            have HR6 := Lib.hid (others_row HR5.out hk (by decide) (one_apart HO5.out HR5.out (by decide)))
            clear ho hb hk
            go_wp2_with fail
            refine (one_write HO6.out I (by show 0 + _ ≤ _; omega)).mono ?_
            rintro e w7 ⟨⟨v7, rfl⟩, ho, hb, hk⟩
            rw [nil_app] at ho
            have HO7 := Lib.hid ho
            have HB7 := Lib.hid (HB6.out.trans hb)
            have HR7 := Lib.hid (others_row HR6.out hk (by decide) (one_apart HO6.out HR6.out (by decide)))
            clear ho hb hk
            go_wp2_with fail
            go_roundw
            case rel => exact ⟨i + 1, O, by omega, by go_num, rfl, by rw [HQ.out]; exact Lib.hid HOI.out.symm, by rw [HQ.out]; exact HR7, by rw [HQ.out]; exact HO7, HB7⟩
            case measure => simp [intOf]; omega
    · have e1 : decide ((i : Int) < (n : Int)) = false := decide_eq_false (by omega)
      have hie : i = n := by omega
      subst hie
      by_cases hn0 : i = 0
      · have hc0 : decide ((0 : Int) < (i : Int)) = false := decide_eq_false (by omega)
        rw [if_pos hn0] at HE
        subst hn0
        go_wp2_with fail
        go_ret
        exact ⟨_, rfl, by rw [HE.out]; exact HR.out, HB.out⟩
      · have hc0 : decide ((0 : Int) < (i : Int)) = true := decide_eq_true (by omega)
        rw [if_neg hn0] at HE
        generalize comS l most i = S at *
        go_wp2_with fail
        refine (one_text HO.out (by omega)).mono ?_
        rintro e w3 ⟨rfl, ho, hb, hk⟩
        have HB3 := Lib.hid (HB.out.trans hb)
        have HR3 := Lib.hid (others_row HR.out hk (by decide) (one_apart HO.out HR.out (by decide)))
        clear ho hb hk
        go_wp2_with (at_builtin; go_loud (refine wpList_append_own _ rfl (.tmp 57) (.tmp 59) 22 rfl w.heap.size 9 is (.string ⟨#[]⟩) 1 16 Tryd.underlying22 his hs0 hs1 hs2 rfl (by decide) _ _ _ rfl (HR3.out.alloc _) ⟨w3.heap.size, 0, none⟩ 1 1 [.string S.2] rfl rfl (World.news_of_block (heap_alloc_new _ _)) (by intro u hu; simp at hu; subst hu; rfl) (by unfold maxLen; omega) (by omega) (by have := HB3.out.size; simp; omega) ?_; intro v5 w5 hown hgrow hnil))
        rw [strs_add] at hown
        have hal : Below w3.heap.size w3 (w3.alloc (.cells #[.string S.2] 9)) := (Below.refl _ _).alloc (Nat.le_refl _) _
        have HR5 := Lib.hid (show w5.ownsRow w.heap.size 9 1 v5 L.length (strs L) from by rw [HE.out, List.length_append]; exact hown)
        have HB5 := Lib.hid ((HB3.out.alloc HB3.out.size (.cells #[.string S.2] 9)).grown hgrow (Nat.le_trans HB3.out.size hal.size) (fun k hk => (HR3.out.lt k hk).1))
        clear hown hgrow hnil hal
        go_ret
        exact ⟨_, rfl, HR5.out, HB5.out⟩

/-! ### rows, and their number, as asked -/
theorem down_any (l : List ByteArray) (a : Option Addr) (cap : Nat) (most : Int) (w : World) (H : InL w a l) (hl : l.length ≤ 1000) (hz : ∀ x ∈ l, x.size ≤ 4000) (hm : most ≤ 9223372036854775807) (ht : Tab w) :
    Calls Tryd.prog 9 #[.slice a l.length cap, .int .i64 most] w fun e w' => ∃ v, e = .returned v ∧ w'.ownsRow w.heap.size 9 1 v (lrows l most false).length (strs (lrows l most false)) ∧ Below w.heap.size w w' := by
  have HL := Lib.hid (lay_any l a cap most false w H hl hz hm ht)
  clear H hz ht
  generalize l.length = n at *
  generalize lrows l most false = L at *
  go_enter Tryd.func9, Tryd.ntmps9
  go_wp2_with fail
  refine HL.out.mono ?_
  rintro e w2 ⟨g, m, rfl, rfl, ho, hb⟩
  have HO := Lib.hid ho
  have HB := Lib.hid hb
  clear ho hb
  go_wp2_with fail
  go_ret
  exact ⟨_, rfl, HO.out, HB.out⟩
theorem across_any (l : List ByteArray) (a : Option Addr) (cap : Nat) (most : Int) (w : World) (H : InL w a l) (hl : l.length ≤ 1000) (hz : ∀ x ∈ l, x.size ≤ 4000) (hm : most ≤ 9223372036854775807) (ht : Tab w) :
    Calls Tryd.prog 10 #[.slice a l.length cap, .int .i64 most] w fun e w' => ∃ v, e = .returned v ∧ w'.ownsRow w.heap.size 9 1 v (lrows l most true).length (strs (lrows l most true)) ∧ Below w.heap.size w w' := by
  have HL := Lib.hid (lay_any l a cap most true w H hl hz hm ht)
  clear H hz ht
  generalize l.length = n at *
  generalize lrows l most true = L at *
  go_enter Tryd.func10, Tryd.ntmps10
  go_wp2_with fail
  refine HL.out.mono ?_
  rintro e w2 ⟨g, m, rfl, rfl, ho, hb⟩
  have HO := Lib.hid ho
  have HB := Lib.hid hb
  clear ho hb
  go_wp2_with fail
  go_ret
  exact ⟨_, rfl, HO.out, HB.out⟩
theorem size_any (l : List ByteArray) (a : Option Addr) (cap : Nat) (most : Int) (across : Bool) (w : World) (H : InL w a l) (hl : l.length ≤ 1000) (hz : ∀ x ∈ l, x.size ≤ 4000) (hm : most ≤ 9223372036854775807) (ht : Tab w) :
    Calls Tryd.prog 13 #[.slice a l.length cap, .int .i64 most, .bool across] w fun e w' => e = .returned (sizeV (takenN l (boundZ most) across : Int) (rowsN l.length (takenN l (boundZ most) across) : Int)) ∧ Below w.heap.size w w' := by
  have hz6 : ∀ x ∈ l, x.size ≤ 60000 := fun x hx => Nat.le_trans (hz x hx) (by decide)
  have HL := Lib.hid (widths_any l a cap w H hl hz6 ht)
  have hbz : boundZ most ≤ 9223372036854775807 := by unfold boundZ; split <;> omega
  have HTk := Lib.hid (fun (g base : Nat) (W : World) (hX : W.ownsRow base 3 1 (ownS g l.length) l.length (ints (wds l))) => taken_any l (boundZ most) across g base W hX hl hz6 (boundZ_pos most) hbz)
  clear H hz hz6 ht
  generalize l.length = n at *
  generalize takenN l (boundZ most) across = T at *
  go_enter Tryd.func13, Tryd.ntmps13
  go_wp2_with fail
  refine HL.out.mono ?_
  rintro e w2 ⟨g, rfl, ho, hb⟩
  have HO := Lib.hid ho
  have HB := Lib.hid hb
  clear ho hb
  go_wp2_with fail
  refine (bound_any most _).mono ?_
  rintro e w3 ⟨rfl, rfl⟩
  go_wp2_with fail
  refine (HTk.out g w.heap.size w2 HO.out).mono ?_
  rintro e w3 ⟨rfl, hb⟩
  have HB3 := Lib.hid (below_two HB.out hb)
  clear hb
  go_wp2_with fail
  go_ret
  exact ⟨rfl, HB3.out⟩
end Go.Proofs.YtemnbleacjpfcaaDoor.L
