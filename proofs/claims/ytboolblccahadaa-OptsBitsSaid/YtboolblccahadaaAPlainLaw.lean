/-
  That the law OptsPlain returns true. Conditions: what came in lies in memory; the library's variable holds some number.
-/
import Derived.Test.YtboolblccahadaaAReadsLaw
set_option linter.unusedVariables false
set_option linter.unusedSimpArgs false
namespace Go.Proofs.Ytboolblccahadaa.A
open Go.Proofs.Ytboolblccahadaa.B
open Go.RowKit

theorem owned_cap {w : World} {base : Nat} {e : TypeId} {k n cp : Nat} {ao : Option Addr} {xs : List Value} (h : w.ownsRow base e k (.slice ao n cp) n xs) : n ≤ cp ∧ cp ≤ maxLen ∧ (ao = none → cp = 0) := by
  rcases h.2 with ⟨e1, h0⟩ | ⟨g, cap, cur, e1, hb, hg, hnc, hcm, _⟩
  · simp only [Value.slice.injEq] at e1
    exact ⟨by omega, by unfold maxLen; omega, fun _ => e1.2.2⟩
  · simp only [Value.slice.injEq] at e1
    obtain ⟨rfl, _, rfl⟩ := e1
    exact ⟨hnc, hcm, fun q => by cases q⟩
theorem owns_one {w : World} {b : Nat} {e : TypeId} {k : Nat} {xs : List Value} (hb : b ≤ w.heap.size) (hk : xs.length = k) : (w.alloc (.cells xs.toArray e)).ownsRow b e k (.slice (some ⟨w.heap.size, 0, none⟩) 1 1) 1 xs :=
  ⟨by omega, .inr ⟨w.heap.size, 1, xs.toArray, rfl, hb, heap_alloc_new _ _, Nat.le_refl _, by decide, by simp [hk], by simp; exact List.take_of_length_le (by omega)⟩⟩
def xOf (s : ByteArray) : ByteArray := ⟨#[120]⟩ ++ s
theorem xOf_size (s : ByteArray) : (xOf s).size = 1 + s.size := by unfold xOf; rw [ByteArray.size_append]; rfl
theorem xOf_head (s : ByteArray) : (listB (xOf s)).head? ≠ some 45 := by
  unfold xOf listB
  rw [ByteArray.data_append, Array.toList_append]
  show (120 :: s.data.toList).head? ≠ some 45
  simp
theorem read_dash (specs : List Sp) (args : List ByteArray) : readM specs (⟨#[45, 45]⟩ :: args) = .ok [] args := read_stop specs _ rfl args
theorem read_xs (specs : List Sp) (args : List ByteArray) : readM specs (args.map xOf) = .ok [] (args.map xOf) := read_plain specs _ fun y hy => by
  obtain ⟨x, _, rfl⟩ := List.mem_map.1 hy
  exact xOf_head x
/-- Read, where all is well. -/
theorem read_well (specs : List Sp) (args : List ByteArray) (l : List Op) (p : List ByteArray) (hr : readM specs args = .ok l p) (sa la : Option Addr) (sc lc : Nat) (W : World) (hs : SpsL W sa specs) (hl : TxtL W la args) (hc : args.length ≤ lc ∧ lc ≤ maxLen ∧ (la = none → lc = 0)) (hm : MaxT W) (hn : specs.length ≤ 1000) (hk : args.length ≤ 40) (hz : ∀ x ∈ args, x.size ≤ 1000) :
    Calls Try.prog 9 #[.slice sa specs.length sc, .slice la args.length lc] W fun e w' => (∃ oa oc pa pc, e = .returned (.tuple #[.slice oa l.length oc, .slice pa p.length pc, .string ⟨#[]⟩, .int .i64 0]) ∧ RowL 2 opC w' oa l ∧ (oa = none → oc = 0) ∧ TxtL w' pa p ∧ (pa = none → pc = 0)) ∧ Below W.heap.size W w' := by
  refine (read_any specs args sa la sc lc W hs hl hc hm hn hk hz).mono ?_
  rintro e w' ⟨h, hb⟩
  rw [hr] at h
  obtain ⟨ov, pv, rfl, ho, hp⟩ := h
  obtain ⟨oa, oc, rfl⟩ := owns_form ho
  obtain ⟨pa, pc, rfl⟩ := owns_form hp
  exact ⟨⟨oa, oc, pa, pc, rfl, owned_row opC_len ho, (owned_cap ho).2.2, owned_txt hp, (owned_cap hp).2.2⟩, hb⟩
def PlnRel (args : List ByteArray) (w : World) (v k : Value) (wr : World) : Prop := ∃ i : Nat, i ≤ args.length ∧ k = .int .i64 (i : Int) ∧ Hid (wr.ownsRow w.heap.size 9 1 v i (strs ((args.take i).map xOf))) ∧ Hid (Below w.heap.size w wr)
set_option maxRecDepth 100000 in
set_option maxHeartbeats 8000000 in
theorem plain_any (specs : List Sp) (args : List ByteArray) (sa la : Option Addr) (sc lc : Nat) (w : World) (hs : CamIn w specs sa) (hl : CamTx w args la lc) (hm : MaxT w) :
    Calls Try.prog 3 #[.slice sa specs.length sc, .slice la args.length lc] w fun e w' => e = .returned (.bool true) ∧ Below w.heap.size w w' := by
  obtain ⟨it, hit, ht0, ht1, ht2⟩ := info_parts infoTxt
  have HS := Lib.hid hs
  have HL := Lib.hid hl
  have HAw := Lib.hid (fun W (hb : Below w.heap.size w W) => awake_any W (hm.keep hb))
  have HFw := Lib.hid (fun W (hb : Below w.heap.size w W) => afew_any specs args sa la sc lc W (hs.sp.keep hb) (hl.tx.keep hb) hs.len hl.len hl.size hs.long)
  have HM := Lib.hid hm
  have hll := hl.len
  clear hs hl hm
  go_enter Try.func3, Try.ntmps3
  go_wp2_with fail
  refine (HAw.out _ (Below.refl _ _)).mono ?_
  rintro e w2 ⟨rfl, hb2⟩
  have HB2 := Lib.hid hb2
  clear hb2
  go_wp2_with fail
  refine (HFw.out _ HB2.out).mono ?_
  rintro e w3 ⟨b, rfl, hb, rfl⟩
  cases b with
  | false =>
    clear hb
    go_wp2_with fail
    refine (HAw.out _ HB2.out).mono ?_
    rintro e w4 ⟨rfl, hb4⟩
    have HB4 := Lib.hid (below_two HB2.out hb4)
    clear hb4
    go_wp2_with fail
    go_ret
    exact ⟨rfl, HB4.out⟩
  | true =>
    have HF := Lib.hid (hb rfl)
    clear hb
    by_cases h20 : 20 < args.length
    · have d20 : decide ((20 : Int) < (args.length : Int)) = true := decide_eq_true (by omega)
      go_wp2_with fail
      refine (HAw.out _ HB2.out).mono ?_
      rintro e w4 ⟨rfl, hb4⟩
      have HB4 := Lib.hid (below_two HB2.out hb4)
      clear hb4
      go_wp2_with fail
      go_ret
      exact ⟨rfl, HB4.out⟩
    · have d20 : decide ((20 : Int) < (args.length : Int)) = false := decide_eq_false (by omega)
      have HTw := Lib.hid (HL.out.tx.keep HB2.out)
      have HR := Lib.hid (fun (args' : List ByteArray) (l : List Op) (p : List ByteArray) (hr : readM specs args' = .ok l p) (la' : Option Addr) (lc' : Nat) (W : World) (hb : Below w.heap.size w W) (hl : TxtL W la' args') (hc : args'.length ≤ lc' ∧ lc' ≤ maxLen ∧ (la' = none → lc' = 0)) (hk : args'.length ≤ 40) (hz : ∀ x ∈ args', x.size ≤ 1000) => read_well specs args' l p hr sa la' sc lc' W (HS.out.sp.keep hb) hl hc (HM.out.keep hb) (by have := HF.out.2.1; omega) hk hz)
      go_wp2_with (at_builtin; go_loud (refine wpList_append_rowL rfl (.tmp 31) (.tmp 32) 23 rfl w.heap.size 9 it (.string ⟨#[]⟩) 16 Try.underlying23 hit ht0 ht1 ht2 rfl (by decide) txC_len txC_one _ 1 [.string ⟨#[45, 45]⟩] rfl (owns_one HB2.out.size rfl) _ _ args rfl (HTw.out.keep ((Below.refl _ _).alloc (Nat.le_refl _) _)) HL.out.cap.2.2 (by unfold maxLen; omega) (by omega) (by have := HB2.out.size; simp; omega) ?_; intro ao cp w5 hown hgrow; rw [txC_strs, Nat.add_comm 1 args.length] at hown; rw [Nat.add_comm 1 args.length]; have HO5 := Lib.hid (show w5.ownsRow w.heap.size 9 1 (.slice ao (args.length + 1) cp) (args.length + 1) (strs (⟨#[45, 45]⟩ :: args)) from hown); have HB5 := Lib.hid ((HB2.out.alloc HB2.out.size (.cells #[.string ⟨#[45, 45]⟩] 9)).grown hgrow (by have := HB2.out.size; simp; omega) (fun k hk => by cases hk; exact HB2.out.size)); clear hown hgrow))
      refine (HR.out (⟨#[45, 45]⟩ :: args) [] args (read_dash specs args) ao cp _ HB5.out (owned_txt HO5.out) (owned_cap HO5.out) (by rw [List.length_cons]; omega) (fun x hx => by
        rcases List.mem_cons.1 hx with rfl | hx
        · decide
        · have := HF.out.2.2.1 x hx; omega)).mono ?_
      rintro e w6 ⟨⟨oa, oc, pa, pc, rfl, ho, _, hp, _⟩, hb6⟩
      have HB6 := Lib.hid (below_two HB5.out hb6)
      have HP6 := Lib.hid hp
      clear ho hp hb6
      go_wp2_with fail
      refine (tsame_any args pa la pc lc _ HP6.out (HL.out.tx.keep HB6.out) (by omega)).mono ?_
      rintro e w7 ⟨rfl, hb7⟩
      have HB7 := Lib.hid (below_two HB6.out hb7)
      clear hb7 HR
      go_wp2_with fail
      go_loopw [9, 10] (PlnRel args w) (fun _ v _ => args.length - (intOf v).toNat)
      case atStart => exact ⟨0, Nat.zero_le _, rfl, Lib.hid (World.ownsRow_nil _ _ _ _), HB7⟩
      case round =>
        obtain ⟨i, hi, rfl, HO, HB⟩ := hrel
        by_cases hlt : i < args.length
        · have e1 : decide ((i : Int) < (args.length : Int)) = true := decide_eq_true (by omega)
          obtain ⟨x, hx⟩ : ∃ x, args[i]? = some x := ⟨_, List.getElem?_eq_getElem hlt⟩
          obtain ⟨g, o, rfl, _, r0⟩ := txt_at (HL.out.tx.keep HB.out) hx
          have hsz := HF.out.2.2.1 x (List.mem_of_getElem? hx)
          have HTk := Lib.hid (show strs ((args.take (i + 1)).map xOf) = strs ((args.take i).map xOf) ++ [.string (xOf x)] from by
            rw [List.take_add_one, hx, List.map_append, strs_app]; rfl)
          have HXf := Lib.hid (show (⟨#[120]⟩ : ByteArray) ++ x = xOf x from rfl)
          clear hx
          go_wp2_with (at_builtin; rw [HXf.out]; go_loud (refine wpList_append_own _ rfl (.tmp 58) (.tmp 64) 23 rfl w.heap.size 9 it (.string ⟨#[]⟩) 1 16 Try.underlying23 hit ht0 ht1 ht2 rfl (by decide) _ i (strs ((args.take i).map xOf)) rfl (HO.out.alloc _) ⟨wr.heap.size, 0, none⟩ 1 1 [.string (xOf x)] rfl rfl (World.news_of_block (heap_alloc_new _ _)) (by intro u hu; simp at hu; subst hu; rfl) (by unfold maxLen; omega) (by omega) (by have := HB.out.size; simp; omega) ?_; intro v5 w5 hown hgrow hnil; have HO5 := Lib.hid hown; have HB5 := Lib.hid ((HB.out.alloc HB.out.size (.cells #[.string (xOf x)] 9)).grown hgrow (by have := HB.out.size; simp; omega) (fun k hk => (HO.out.lt k hk).1)); clear hown hgrow hnil))
          go_roundw
          case rel => exact ⟨i + 1, by omega, by simp, Lib.hid (by rw [HTk.out]; exact HO5.out), HB5⟩
          case measure => simp [intOf]; omega
        · have e1 : decide ((i : Int) < (args.length : Int)) = false := decide_eq_false (by omega)
          obtain rfl : i = args.length := by omega
          rw [List.take_length] at HO
          obtain ⟨xa, xc, rfl⟩ := owns_form HO.out
          have hml : (args.map xOf).length = args.length := List.length_map _
          have HO' := Lib.hid (show wr.ownsRow w.heap.size 9 1 (.slice xa (args.map xOf).length xc) (args.map xOf).length (strs (args.map xOf)) from by rw [hml]; exact HO.out)
          have HR := Lib.hid (read_well specs (args.map xOf) [] (args.map xOf) (read_xs specs args) sa xa sc xc wr (HS.out.sp.keep HB.out) (owned_txt HO'.out) (owned_cap HO'.out) (HM.out.keep HB.out) (by have := HF.out.2.1; omega) (by rw [hml]; omega) (fun x hx => by
            obtain ⟨y, hy, rfl⟩ := List.mem_map.1 hx
            rw [xOf_size]
            have := HF.out.2.2.1 y hy
            omega))
          have HSm := Lib.hid (fun (W : World) (pa : Option Addr) (pc : Nat) (hb : Below wr.heap.size wr W) (hp : TxtL W pa (args.map xOf)) => tsame_any (args.map xOf) pa xa pc xc W hp ((owned_txt HO'.out).keep hb) (by rw [hml]; omega))
          rw [hml] at HR HSm
          clear hml
          go_wp2_with fail
          refine HR.out.mono ?_
          rintro e w6 ⟨⟨oa, oc, pa, pc, rfl, ho, _, hp, _⟩, hb6⟩
          have HB6 := Lib.hid hb6
          have HP6 := Lib.hid hp
          clear ho hp hb6
          go_wp2_with fail
          refine (HSm.out _ pa pc HB6.out HP6.out).mono ?_
          rintro e w7 ⟨rfl, hb7⟩
          have HB7 := Lib.hid (below_two (below_two HB.out HB6.out) hb7)
          clear hb7
          go_wp2_with fail
          go_ret
          exact ⟨rfl, HB7.out⟩
end Go.Proofs.Ytboolblccahadaa.A
