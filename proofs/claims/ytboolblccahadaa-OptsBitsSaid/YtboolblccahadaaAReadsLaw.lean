/-
  That the law OptsReads returns true. Conditions: what came in lies in memory; the library's variable holds some number.
-/
import Derived.Test.YtboolblccahadaaARefR
import Derived.Test.YtboolblccahadaaASame
set_option linter.unusedVariables false
set_option linter.unusedSimpArgs false
namespace Go.Proofs.Ytboolblccahadaa.A
open Go.Proofs.Ytboolblccahadaa.B
open Go.RowKit

/-- An empty row that is made. -/
theorem owns_new {w : World} {b : Nat} {e : TypeId} {size : Nat} (hb : b ≤ w.heap.size) : (w.alloc (.cells #[] e)).ownsRow b e size (.slice (some ⟨w.heap.size, 0, none⟩) 0 0) 0 [] := by
  refine ⟨by simp, .inr ⟨w.heap.size, 0, #[], rfl, hb, heap_alloc_new _ _, Nat.le_refl _, by unfold maxLen; omega, by simp, by simp⟩⟩
theorem owned_row {α : Type} {f : α → List Value} {k : Nat} {w : World} {base : Nat} {e : TypeId} {ao : Option Addr} {cp : Nat} {l : List α} (hk : ∀ x, (f x).length = k) (h : w.ownsRow base e k (.slice ao l.length cp) l.length (cellsC f l)) : RowL k f w ao l := by
  obtain ⟨a, c, e, hr, _⟩ := RowL.of_owns hk h
  simp only [Value.slice.injEq] at e
  rw [e.1]
  exact hr
theorem owned_txt {w : World} {base : Nat} {e : TypeId} {ao : Option Addr} {cp : Nat} {l : List ByteArray} (h : w.ownsRow base e 1 (.slice ao l.length cp) l.length (strs l)) : TxtL w ao l := by
  rw [← txC_strs] at h
  exact owned_row txC_len h
/-- How many options and operands are read. -/
theorem read_size (specs : List Sp) : ∀ (n : Nat) (args : List ByteArray) (l : List Op) (p : List ByteArray), args.length ≤ n → (∀ x ∈ args, x.size ≤ 1000) → readM specs args = .ok l p → l.length ≤ args.length * 1001 ∧ p.length ≤ args.length
  | _, [], l, p, _, _, h => by
    rw [readM] at h
    simp only [Rd.ok.injEq] at h
    rw [← h.1, ← h.2]
    exact ⟨Nat.zero_le _, Nat.le_refl _⟩
  | 0, x :: args, l, p, hn, _, h => by simp at hn
  | n + 1, x :: args, l, p, hn, hz, h => by
    have hs := read_step specs x [] [] args
    rw [fin_nil, h] at hs
    cases hst : stepM (kindA specs x) x [] [] args with
    | none => rw [hst] at hs; cases hs
    | some s =>
      obtain ⟨O, P, L⟩ := s
      rw [hst] at hs
      dsimp only at hs
      have h1 := step_left hst
      have h2 := step_opts hst
      have h3 := step_sub hst
      cases hr : readM specs L with
      | bad a => rw [hr] at hs; cases hs
      | ok l2 p2 =>
        rw [hr] at hs
        simp only [finL, Rd.ok.injEq] at hs
        obtain ⟨rfl, rfl⟩ := hs
        have ih := read_size specs n L l2 p2 (by simp at hn; omega) (fun y hy => hz y (List.mem_cons_of_mem _ (h3 y hy))) hr
        have hx := hz x List.mem_cons_self
        rw [listB_len] at h2
        simp only [List.length_nil, Nat.zero_add] at h1 h2
        rw [List.length_append, List.length_append, List.length_cons]
        obtain ⟨h1a, h1b⟩ := h1
        have h4 : L.length * 1001 ≤ args.length * 1001 := Nat.mul_le_mul_right _ h1a
        constructor <;> omega
theorem read_len {specs : List Sp} {args : List ByteArray} {l : List Op} {p : List ByteArray} (h : readM specs args = .ok l p) (hz : ∀ x ∈ args, x.size ≤ 1000) : l.length ≤ args.length * 1001 ∧ p.length ≤ args.length := read_size specs _ args l p (Nat.le_refl _) hz h
/-- What came in: specs and arguments. -/
structure CamIn (w : World) (specs : List Sp) (sa : Option Addr) : Prop where
  sp : SpsL w sa specs
  long : ∀ s ∈ specs, s.long.size ≤ 9223372036854775807
  len : specs.length ≤ 9223372036854775807
structure CamTx (w : World) (args : List ByteArray) (la : Option Addr) (lc : Nat) : Prop where
  tx : TxtL w la args
  size : ∀ x ∈ args, x.size ≤ 9223372036854775807
  cap : args.length ≤ lc ∧ lc ≤ maxLen ∧ (la = none → lc = 0)
theorem CamTx.len {w : World} {args : List ByteArray} {la : Option Addr} {lc : Nat} (h : CamTx w args la lc) : args.length ≤ 9223372036854775807 := by
  have := h.cap
  unfold maxLen at this
  omega
set_option maxRecDepth 100000 in
set_option maxHeartbeats 8000000 in
theorem reads_any (specs : List Sp) (args : List ByteArray) (sa la : Option Addr) (sc lc : Nat) (w : World) (hs : CamIn w specs sa) (hl : CamTx w args la lc) (hm : MaxT w) :
    Calls Try.prog 4 #[.slice sa specs.length sc, .slice la args.length lc] w fun e w' => e = .returned (.bool true) ∧ Below w.heap.size w w' := by
  obtain ⟨it, hit, ht0, ht1, ht2⟩ := info_parts infoTxt
  have HS := Lib.hid hs
  have HL := Lib.hid hl
  have HAw := Lib.hid (fun W (hb : Below w.heap.size w W) => awake_any W (hm.keep hb))
  have HFw := Lib.hid (fun W (hb : Below w.heap.size w W) => afew_any specs args sa la sc lc W (hs.sp.keep hb) (hl.tx.keep hb) hs.len hl.len hl.size hs.long)
  have HM := Lib.hid hm
  clear hs hl hm
  go_enter Try.func4, Try.ntmps4
  go_wp2_with fail
  refine (HAw.out _ (Below.refl _ _)).mono ?_
  rintro e w2 ⟨rfl, hb2⟩
  have HB2 := Lib.hid hb2
  clear hb2
  go_wp2_with fail
  refine (HFw.out _ HB2.out).mono ?_
  rintro e w3 ⟨b, rfl, hb, rfl⟩
  cases b with
  | false =>
    clear hb
    go_wp2_with fail
    refine (HAw.out _ HB2.out).mono ?_
    rintro e w4 ⟨rfl, hb4⟩
    have HB4 := Lib.hid (below_two HB2.out hb4)
    clear hb4
    go_wp2_with fail
    go_ret
    exact ⟨rfl, HB4.out⟩
  | true =>
    have HF := Lib.hid (hb rfl)
    clear hb
    have h30 := HF.out.1
    have HTw := Lib.hid (HL.out.tx.keep HB2.out)
    go_upto_region 4 with (at_builtin; go_loud (refine wpList_append_rowL rfl (.tmp 23) (.tmp 24) 23 rfl w.heap.size 9 it (.string ⟨#[]⟩) 16 Try.underlying23 hit ht0 ht1 ht2 rfl (by decide) txC_len txC_one _ 0 [] rfl (owns_new HB2.out.size) _ _ args rfl (HTw.out.keep ((Below.refl _ _).alloc (Nat.le_refl _) _)) HL.out.cap.2.2 (by unfold maxLen; omega) (by omega) (by have := HB2.out.size; simp; omega) ?_; intro ao cp w5 hown hgrow; rw [txC_strs, Nat.zero_add, List.nil_append] at hown; have HO5 := Lib.hid hown; have HB5 := Lib.hid ((HB2.out.alloc HB2.out.size (.cells #[] 9)).grown hgrow (by have := HB2.out.size; simp; omega) (fun k hk => by cases hk; exact HB2.out.size)); clear hown hgrow))
    have HR := Lib.hid (fun W (hb : Below w.heap.size w W) => read_any specs args sa la sc lc W (HS.out.sp.keep hb) (HL.out.tx.keep hb) HL.out.cap (HM.out.keep hb) (by have := HF.out.2.1; omega) (by omega) (fun x hx => by have := HF.out.2.2.1 x hx; omega))
    have HQ := Lib.hid (fun W (hb : Below w.heap.size w W) => rread_any specs args sa la sc lc W (HS.out.sp.keep hb) (HL.out.tx.keep hb) ⟨HL.out.cap.1, HL.out.cap.2.1⟩ (by have := HF.out.2.1; omega) (by omega) (fun x hx => by have := HF.out.2.2.1 x hx; omega) (fun s hs => by have := HF.out.2.2.2 s hs; omega))
    have HTs := Lib.hid (fun W (hb : Below w.heap.size w W) (hb5 : Below w5.heap.size w5 W) => tsame_any args la ao lc cp W (HL.out.tx.keep hb) ((owned_txt HO5.out).keep hb5) (by omega))
    rcases hrd : readM specs args with a | ⟨l, p⟩
    · have HRb := Lib.hid (show ∀ W, Below w.heap.size w W → Calls Try.prog 9 #[.slice sa specs.length sc, .slice la args.length lc] W fun e w' => e = .returned (.tuple #[.slice none 0 0, .slice none 0 0, .string a, .int .i64 10]) ∧ Below W.heap.size W w' from fun W hb => (by have := HR.out W hb; rw [hrd] at this; exact this))
      have HQb := Lib.hid (show ∀ W, Below w.heap.size w W → Calls Try.prog 11 #[.slice sa specs.length sc, .slice la args.length lc] W fun e w' => e = .returned (.tuple #[.slice none 0 0, .slice none 0 0, .string a, .bool false]) ∧ Below W.heap.size W w' from fun W hb => (by have := HQ.out W hb; rw [hrd] at this; exact this))
      have hne : (a.toList != a.toList) = false := by simp
      clear hrd HR HQ
      go_upto_region 6 with (first
        | (go_at_call 9; refine (HRb.out _ HB5.out).mono ?_; rintro e w6 ⟨rfl, hb6⟩; have HB6 := Lib.hid (below_two HB5.out hb6); have HC6 := Lib.hid hb6; clear hb6)
        | (go_at_call 11; refine (HQb.out _ HB6.out).mono ?_; rintro e w7 ⟨rfl, hb7⟩; have HB7 := Lib.hid (below_two HB6.out hb7); have HC7 := Lib.hid (below_two HC6.out hb7); clear hb7))
      go_wp2_with fail
      refine (HTs.out _ HB7.out HC7.out).mono ?_
      rintro e w8 ⟨rfl, hb8⟩
      have HB8 := Lib.hid (below_two HB7.out hb8)
      clear hb8
      go_wp2_with fail
      refine (osame_any [] none none 0 0 _ (RowL.nil _ _) (RowL.nil _ _) (by decide)).mono ?_
      rintro e w9 ⟨rfl, hb9⟩
      have HB9 := Lib.hid (below_two HB8.out hb9)
      clear hb9
      go_wp2_with fail
      refine (tsame_any [] none none 0 0 _ (RowL.nil _ _) (RowL.nil _ _) (by decide)).mono ?_
      rintro e w10 ⟨rfl, hb10⟩
      have HB10 := Lib.hid (below_two HB9.out hb10)
      clear hb10
      go_wp2_with fail
      go_ret
      exact ⟨rfl, HB10.out⟩
    · have HRb := Lib.hid (show ∀ W, Below w.heap.size w W → Calls Try.prog 9 #[.slice sa specs.length sc, .slice la args.length lc] W fun e w' => (∃ ov pv, e = .returned (.tuple #[ov, pv, .string ⟨#[]⟩, .int .i64 0]) ∧ w'.ownsRow W.heap.size 35 2 ov l.length (cellsC opC l) ∧ w'.ownsRow W.heap.size 9 1 pv p.length (strs p)) ∧ Below W.heap.size W w' from fun W hb => (by have := HR.out W hb; rw [hrd] at this; exact this))
      have HQb := Lib.hid (show ∀ W, Below w.heap.size w W → Calls Try.prog 11 #[.slice sa specs.length sc, .slice la args.length lc] W fun e w' => (∃ ov pv, e = .returned (.tuple #[ov, pv, .string ⟨#[]⟩, .bool true]) ∧ w'.ownsRow W.heap.size 35 2 ov l.length (cellsC opC l) ∧ w'.ownsRow W.heap.size 9 1 pv p.length (strs p)) ∧ Below W.heap.size W w' from fun W hb => (by have := HQ.out W hb; rw [hrd] at this; exact this))
      obtain ⟨hbl, hbp⟩ := read_len hrd (fun x hx => by have := HF.out.2.2.1 x hx; omega)
      have HBl := Lib.hid (show l.length ≤ 1000000 ∧ p.length ≤ 1000000 from by
        constructor
        · have : args.length * 1001 ≤ 30 * 1001 := Nat.mul_le_mul_right _ h30
          omega
        · omega)
      clear hrd HR HQ hbl hbp
      go_upto_region 6 with (first
        | (go_at_call 9; refine (HRb.out _ HB5.out).mono ?_; rintro e w6 ⟨⟨ov, pv, rfl, ho, hp⟩, hb6⟩; obtain ⟨oa, oc, rfl⟩ := owns_form ho; obtain ⟨pa, pc, rfl⟩ := owns_form hp; have HO6 := Lib.hid (owned_row opC_len ho); have HP6 := Lib.hid (owned_txt hp); have HB6 := Lib.hid (below_two HB5.out hb6); have HC6 := Lib.hid hb6; clear hb6 ho hp)
        | (go_at_call 11; refine (HQb.out _ HB6.out).mono ?_; rintro e w7 ⟨⟨ov, pv, rfl, ho, hp⟩, hb7⟩; obtain ⟨oa7, oc7, rfl⟩ := owns_form ho; obtain ⟨pa7, pc7, rfl⟩ := owns_form hp; have HO7 := Lib.hid (owned_row opC_len ho); have HP7 := Lib.hid (owned_txt hp); have HO6' := Lib.hid (HO6.out.keep hb7); have HP6' := Lib.hid (HP6.out.keep hb7); have HB7 := Lib.hid (below_two HB6.out hb7); have HC7 := Lib.hid (below_two HC6.out hb7); clear hb7 ho hp))
      go_wp2_with fail
      refine (HTs.out _ HB7.out HC7.out).mono ?_
      rintro e w8 ⟨rfl, hb8⟩
      have HB8 := Lib.hid (below_two HB7.out hb8)
      have HD8 := Lib.hid hb8
      clear hb8
      go_wp2_with fail
      refine (osame_any l oa oa7 oc oc7 _ (HO6'.out.keep HD8.out) (HO7.out.keep HD8.out) HBl.out.1).mono ?_
      rintro e w9 ⟨rfl, hb9⟩
      have HB9 := Lib.hid (below_two HB8.out hb9)
      have HD9 := Lib.hid (below_two HD8.out hb9)
      clear hb9
      go_wp2_with fail
      refine (tsame_any p pa pa7 pc pc7 _ (HP6'.out.keep HD9.out) (HP7.out.keep HD9.out) HBl.out.2).mono ?_
      rintro e w10 ⟨rfl, hb10⟩
      have HB10 := Lib.hid (below_two HB9.out hb10)
      clear hb10
      go_wp2_with fail
      go_ret
      exact ⟨rfl, HB10.out⟩
end Go.Proofs.Ytboolblccahadaa.A
