/-
  What a run writes: rows, a message, operand by operand. Conditions: the run lies in memory; texts of at most 1000000 bytes, few.
  What a run writes of what is wrong; and operand by operand. Conditions: the run lies in memory; texts of at most 1000000 bytes, few.
-/
import Derived.Test.YtknfhphhcnbndaaGreatDoorGZMem
import Derived.Test.YtknfhphhcnbndaaGreatDoorGAStep
import Derived.Test.YtknfhphhcnbndaaGreatDoorGPut
set_option linter.unusedVariables false
set_option linter.unusedSimpArgs false
namespace Go.Proofs.YtknfhphhcnbndaaGreatDoor.Z
open List renaming setIfInBounds_toArray → lt, set_cons_zero → l0, set_cons_succ → ls
open Go.Proofs.YtknfhphhcnbndaaGreatDoor.B
open Go.RowKit

theorem strs_at {L : List ByteArray} {k : Nat} {s : ByteArray} (h : L[k]? = some s) : (strs L)[k]? = some (.string s) := by
  unfold strs
  rw [List.getElem?_map, h]
  rfl
theorem owns_one (w : World) (t : ByteArray) : (w.alloc (.cells #[.string t] 9)).ownsRow w.heap.size 9 1 (.slice (some ⟨w.heap.size, 0, none⟩) [t].length 1) [t].length (strs [t]) :=
  ⟨rfl, .inr ⟨w.heap.size, 1, _, rfl, Nat.le_refl _, heap_alloc_new _ _, Nat.le_refl 1, (by decide : 1 ≤ maxLen), rfl, rfl⟩⟩
theorem rowO_size (o t : ByteArray) : (rowO o t).size = o.size + t.size + 1 := by
  unfold rowO
  rw [app_size', app_size']
  rfl
theorem rowsO_size {Z : Nat} : ∀ (l : List ByteArray) (o : ByteArray), (∀ t ∈ l, t.size ≤ Z) → (l.foldl rowO o).size ≤ o.size + l.length * (Z + 1)
  | [], o, _ => by simp
  | x :: r, o, h => by
    have h1 := rowsO_size r (rowO o x) fun t ht => h t (List.mem_cons_of_mem _ ht)
    have h2 := h x List.mem_cons_self
    rw [rowO_size] at h1
    rw [List.foldl_cons, List.length_cons, Nat.add_mul]
    omega
section
variable {B g : Nat} {S : List Value} {out err : ByteArray} {st : Int} {w w' : World}
def RowsRel (B g : Nat) (S : List Value) (out err : ByteArray) (st : Int) (L : List ByteArray) (w : World) (v : Value) (wr : World) : Prop := ∃ k : Nat, k ≤ L.length ∧ v = .int .i64 (k : Int) ∧ Hid (RunAt B g S ((L.take k).foldl rowO out) err st wr) ∧ Hid (Kp B g w wr)
set_option maxRecDepth 100000 in
set_option maxHeartbeats 4000000 in
theorem rows_any (h : RunAt B g S out err st w) (L : List ByteArray) (b0 : Nat) (a : Option Addr) (cap : Nat) (HO : w.ownsRow b0 9 1 (.slice a L.length cap) L.length (strs L)) (Z : Nat) (hZ : ∀ t ∈ L, t.size ≤ Z) (hz : out.size + L.length * (Z + 1) ≤ 1000000000) :
    Calls Tryz.prog 207 #[.pointer (some ⟨g, 0, none⟩), .slice a L.length cap] w fun e w' => e = .returned (.tuple #[]) ∧ RunAt B g S (L.foldl rowO out) err st w' ∧ Kp B g w w' := by
  have HR := Lib.hid h
  have HOw := Lib.hid HO
  have HZ := Lib.hid (fun k (hk : k ≤ L.length) => (show ((L.take k).foldl rowO out).size + (L.length - k) * (Z + 1) ≤ 1000000000 from by
    have h1 := rowsO_size (Z := Z) (L.take k) out fun t ht => hZ t (List.mem_of_mem_take ht)
    rw [List.length_take, Nat.min_eq_left hk] at h1
    have h2 : k * (Z + 1) + (L.length - k) * (Z + 1) = L.length * (Z + 1) := by rw [← Nat.add_mul]; congr 1; omega
    omega))
  have HM := Lib.hid hZ
  have hL : L.length ≤ 1000000000 := Nat.le_trans (Nat.le_mul_of_pos_right L.length (show 0 < Z + 1 from Nat.succ_pos Z)) (by omega)
  clear h HO hZ hz
  go_enter Tryz.func207, Tryz.ntmps207
  go_wp2_with fail
  go_loopw [8] (RowsRel B g S out err st L w) (fun v _ => L.length - (intOf v).toNat)
  case atStart => exact ⟨0, Nat.zero_le _, rfl, HR, Lib.hid (Kp.refl HR.out)⟩
  case round =>
    obtain ⟨k, hk, rfl, HRr, HK⟩ := hrel
    by_cases hlt : k < L.length
    · have e1 : decide ((k : Int) < (L.length : Int)) = true := decide_eq_true (by omega)
      obtain ⟨s, hs⟩ : ∃ s, L[k]? = some s := ⟨_, List.getElem?_eq_getElem hlt⟩
      have HOr := Lib.hid (HK.out.owns HOw.out (by decide) (by decide))
      obtain ⟨gx, cx, hv, _, _⟩ := owns_some HOr.out (by omega)
      simp only [Value.slice.injEq] at hv
      obtain ⟨rfl, _, rfl⟩ := hv
      have c0 : wr.cell? ⟨gx, k, none⟩ = some (.string s) := owns_cell HOr.out (strs_at hs)
      have hsz := HM.out s (List.mem_of_getElem? hs)
      have hb := HZ.out k hk
      have hm : (L.length - k) * (Z + 1) = (L.length - k - 1) * (Z + 1) + (Z + 1) := by
        rw [← Nat.succ_mul]; congr 1; omega
      have HTk := Lib.hid (show rowO ((L.take k).foldl rowO out) s = (L.take (k + 1)).foldl rowO out from by
        rw [List.take_succ_eq_append_getElem hlt, List.foldl_append]
        obtain ⟨_, q⟩ := List.getElem?_eq_some_iff.1 hs
        rw [q]; rfl)
      generalize (L.take k).foldl rowO out = oc at HRr hb HTk
      have HW := Lib.hid (out_write HRr.out s (by omega))
      have hsz2 : (oc ++ s).size ≤ 1000000000 := by rw [app_size']; omega
      clear hs hm hb hsz
      go_wp2_with (first
        | (go_at_call 121; refine HW.out.mono ?_; rintro e w2 ⟨⟨u, rfl⟩, hr2, hk2⟩; have HR2 := Lib.hid hr2; have HK2 := Lib.hid (HK.out.trans hk2); clear hr2 hk2)
        | (go_at_call 123; refine (out_byte HR2.out hsz2).mono ?_; rintro e w3 ⟨⟨u2, rfl⟩, hr3, hk3⟩; have HR3 := Lib.hid hr3; have HK3 := Lib.hid (HK2.out.trans hk3); clear hr3 hk3))
      go_roundw
      case rel => exact ⟨k + 1, by omega, by simp, Lib.hid (by rw [← HTk.out]; exact HR3.out), HK3⟩
      case measure => simp [intOf]; omega
    · have e1 : decide ((k : Int) < (L.length : Int)) = false := decide_eq_false (by omega)
      rw [List.take_of_length_le (by omega)] at HRr
      go_wp2_with fail
      go_end0
      exact ⟨rfl, HRr.out, HK.out⟩
/-- A single row. -/
theorem row_any (h : RunAt B g S out err st w) (t : ByteArray) (hz : out.size + t.size + 1 ≤ 1000000000) :
    Calls Tryz.prog 207 #[.pointer (some ⟨g, 0, none⟩), .slice (some ⟨w.heap.size, 0, none⟩) 1 1] (w.alloc (.cells #[.string t] 9)) fun e w' => e = .returned (.tuple #[]) ∧ RunAt B g S (rowO out t) err st w' ∧ Kp B g w w' := by
  have hb : Below w.heap.size w (w.alloc (.cells #[.string t] 9)) := (Below.refl _ _).alloc (Nat.le_refl _) _
  refine (rows_any (h.keep hb) [t] w.heap.size _ _ (owns_one w t) t.size (fun x hx => by simp at hx; subst hx; exact Nat.le_refl _) (by simp; omega)).mono ?_
  rintro e w' ⟨h1, h2, h3⟩
  exact ⟨h1, h2, (Kp.of_below h hb).trans h3⟩

/-! ### a message -/
set_option maxRecDepth 100000 in
theorem message_any (e : Int) (w : World) : Calls Tryz.prog 25 #[.int .i64 e] w fun en w' => en = .returned (.string (messageT e)) ∧ w = w' := by
  have HM := Lib.hid (show messageT e = messageT e from rfl)
  unfold messageT
  by_cases h2 : e = 2
  · subst h2
    go_enter Tryz.func25, Tryz.ntmps25
    go_wp2
    go_ret
    exact ⟨rfl, rfl⟩
  by_cases h3 : e = 3
  · subst h3
    go_enter Tryz.func25, Tryz.ntmps25
    go_wp2
    go_ret
    exact ⟨rfl, rfl⟩
  by_cases h5 : e = 5
  · subst h5
    go_enter Tryz.func25, Tryz.ntmps25
    go_wp2
    go_ret
    exact ⟨rfl, rfl⟩
  by_cases h6 : e = 6
  · subst h6
    go_enter Tryz.func25, Tryz.ntmps25
    go_wp2
    go_ret
    exact ⟨rfl, rfl⟩
  by_cases h7 : e = 7
  · subst h7
    go_enter Tryz.func25, Tryz.ntmps25
    go_wp2
    go_ret
    exact ⟨rfl, rfl⟩
  by_cases h8 : e = 8
  · subst h8
    go_enter Tryz.func25, Tryz.ntmps25
    go_wp2
    go_ret
    exact ⟨rfl, rfl⟩
  rw [if_neg h2, if_neg h3, if_neg h5, if_neg h6, if_neg h7, if_neg h8]
  have d2 : (e == 2) = false := beq_eq_false_iff_ne.2 h2
  have d3 : (e == 3) = false := beq_eq_false_iff_ne.2 h3
  have d5 : (e == 5) = false := beq_eq_false_iff_ne.2 h5
  have d6 : (e == 6) = false := beq_eq_false_iff_ne.2 h6
  have d7 : (e == 7) = false := beq_eq_false_iff_ne.2 h7
  have d8 : (e == 8) = false := beq_eq_false_iff_ne.2 h8
  go_enter Tryz.func25, Tryz.ntmps25
  go_wp2
  go_ret
  exact ⟨rfl, rfl⟩
end
end Go.Proofs.YtknfhphhcnbndaaGreatDoor.Z

namespace Go.Proofs.YtknfhphhcnbndaaGreatDoor.Z
open List renaming setIfInBounds_toArray → lt, set_cons_zero → l0, set_cons_succ → ls
open Go.Proofs.YtknfhphhcnbndaaGreatDoor.B
open Go.RowKit

/-- What quotes, in whatever world comes. -/
def QAt (B : Nat) (qf : ByteArray → ByteArray) (w : World) : Prop := ∀ (X : World) (s : ByteArray), Below B w X → s.size ≤ 1000000 → Calls Tryz.prog 33 #[.int .i64 2, .string s] X fun e w' => e = .returned (.string (qf s)) ∧ Below X.heap.size X w'
theorem QAt.keep {B : Nat} {qf : ByteArray → ByteArray} {w w' : World} (h : QAt B qf w) (hb : Below B w w') : QAt B qf w' := fun X s hX hs => h X s (hb.trans hX) hs
theorem message_size (e : Int) : (messageT e).size ≤ 40 := by
  unfold messageT
  repeat' split
  all_goals decide
theorem msg_size (qf : ByteArray → ByteArray) (nm x : ByteArray) (e : Int) : (msgT qf nm x e).size = nm.size + (qf x).size + (messageT e).size + 5 := by
  unfold msgT nlB
  simp only [app_size']
  show nm.size + 2 + (qf x).size + 2 + (messageT e).size + 1 = _
  omega
section
variable {B g : Nat} {S : List Value} {out err : ByteArray} {st : Int} {w w' : World}
set_option maxRecDepth 100000 in
set_option maxHeartbeats 8000000 in
theorem fail_any (h : RunAt B g S out err st w) (nm x : ByteArray) (q : Bool) (er : Int) (qf : ByteArray → ByteArray) (h6 : S[6]? = some (.string nm)) (h9 : S[9]? = some (.bool q)) (HQ : q = false → QAt B qf w) (hn : nm.size ≤ 1000) (hx : x.size ≤ 1000000) (hz : q = false → (qf x).size ≤ 100000000 ∧ err.size + (msgT qf nm x er).size ≤ 1000000000) :
    Calls Tryz.prog 213 #[.pointer (some ⟨g, 0, none⟩), .string x, .int .i64 er] w fun e w' => e = .returned (.tuple #[]) ∧ RunAt B g S out (if q = true then err else err ++ msgT qf nm x er) 1 w' ∧ Kp B g w w' := by
  have c14 := h.stat
  have f14 := h.frozen 14
  have HR1 := Lib.hid (h.status 1)
  have HK1 := Lib.hid (kp_set h 14 (.int .i64 1))
  clear h
  go_enter Tryz.func213, Tryz.ntmps213
  go_upto_region 1 with fail
  generalize w.setCell ⟨g, 14, none⟩ (.int .i64 1) = w1 at HR1 HK1 ⊢
  have c9 := HR1.out.cell h9
  clear c14 f14
  cases q with
  | true =>
    go_wp2_with fail
    exact bodyPost_ret (v := .tuple #[]) (by simp [results, Tryz.results213, go_sem]) rfl ⟨rfl, HR1.out, HK1.out⟩
  | false =>
    obtain ⟨hq1, hq2⟩ := hz rfl
    have HQ1 := Lib.hid ((HQ rfl).keep HK1.out.below)
    have hms := message_size er
    rw [msg_size] at hq2
    have HA1 := Lib.hid (fun (W : World) => run_string_add_sum (P := Tryz.prog) W nm ⟨#[58, 32]⟩ (by show _ + 2 ≤ _; omega))
    have HA2 := Lib.hid (fun (W : World) => run_string_add_sum (P := Tryz.prog) W (nm ++ ⟨#[58, 32]⟩) (qf x) (by rw [app_size']; show _ + 2 + _ ≤ _; omega))
    have HA3 := Lib.hid (fun (W : World) => run_string_add_sum (P := Tryz.prog) W (nm ++ ⟨#[58, 32]⟩ ++ qf x) ⟨#[58, 32]⟩ (by simp only [app_size']; show _ + 2 + _ + 2 ≤ _; omega))
    have HA4 := Lib.hid (fun (W : World) => run_string_add_sum (P := Tryz.prog) W (nm ++ ⟨#[58, 32]⟩ ++ qf x ++ ⟨#[58, 32]⟩) (messageT er) (by simp only [app_size']; show _ + 2 + _ + 2 + _ ≤ _; omega))
    have HA5 := Lib.hid (fun (W : World) => run_string_add_sum (P := Tryz.prog) W (nm ++ ⟨#[58, 32]⟩ ++ qf x ++ ⟨#[58, 32]⟩ ++ messageT er) ⟨#[10]⟩ (by simp only [app_size']; show _ + 2 + _ + 2 + _ + 1 ≤ _; omega))
    have HMs := Lib.hid (show nm ++ ⟨#[58, 32]⟩ ++ qf x ++ ⟨#[58, 32]⟩ ++ messageT er ++ ⟨#[10]⟩ = msgT qf nm x er from rfl)
    have HWr := Lib.hid (fun (X : World) (hr : RunAt B g S out err 1 X) => err_write hr (msgT qf nm x er) (by rw [msg_size]; omega))
    have HQx := Lib.hid (fun (X : World) (hb : Below B w1 X) => HQ1.out X x hb hx)
    have HMe := Lib.hid (message_any er)
    generalize nm ++ ⟨#[58, 32]⟩ ++ qf x ++ ⟨#[58, 32]⟩ ++ messageT er = A4 at HA5 HA4 HMs
    generalize nm ++ ⟨#[58, 32]⟩ ++ qf x ++ ⟨#[58, 32]⟩ = A3 at HA4 HA3
    generalize nm ++ ⟨#[58, 32]⟩ ++ qf x = A2 at HA3 HA2
    generalize nm ++ (⟨#[58, 32]⟩ : ByteArray) = A1 at HA2 HA1
    obtain ⟨A5, hA5⟩ : ∃ A, msgT qf nm x er = A := ⟨_, rfl⟩
    have HA5e := Lib.hid hA5
    rw [hA5] at HMs HWr
    clear hA5
    rw [HMs.out] at HA5
    have HC6 := Lib.hid (fun (X : World) o e (hr : RunAt B g S o e 1 X) => hr.cell h6)
    clear hz hq1 hq2 hms HQ HQ1 h6 h9 HMs
    generalize qf x = QX at HA2 HQx
    generalize messageT er = ME at HA4 HMe
    go_upto_region 2 with fail
-- TILL 2
    have hRc : RunAt B g S out err 1 w1.drew := HR1.out.keep ((Below.refl _ _).drew)
    have hKc : Kp B g w1 w1.drew := Kp.of_below HR1.out ((Below.refl _ _).drew)
    refine Till.region (z := 1000) (S := fun w' => ∃ e', RunAt B g S out e' 1 w' ∧ Kp B g w1 w') (by kernel_rfl) ⟨_, hRc, hKc⟩ (fun hHeld => ?_)
    refine Till.tk 0 (.pointer (some ⟨g, 0, none⟩)) rfl (fun w0 hS0 => ?_) ?_
    · go_simp
    try simp only [Act.put, lt, l0, ls]
    refine Till.tk 1 (.pointer (some ⟨g, 0, none⟩)) rfl (fun w0 hS0 => ?_) ?_
    · go_simp
    try simp only [Act.put, lt, l0, ls]
    refine Till.tk 2 (.pointer (some ⟨g, 12, none⟩)) rfl (fun w0 hS0 => ?_) ?_
    · go_simp
    try simp only [Act.put, lt, l0, ls]
    refine Till.tk 3 (.pointer (some ⟨g, 0, none⟩)) rfl (fun w0 hS0 => ?_) ?_
    · go_simp
    try simp only [Act.put, lt, l0, ls]
    refine Till.tk 4 (.pointer (some ⟨g, 0, none⟩)) rfl (fun w0 hS0 => ?_) ?_
    · go_simp
    try simp only [Act.put, lt, l0, ls]
    refine Till.tk 5 (.pointer (some ⟨g, 6, none⟩)) rfl (fun w0 hS0 => ?_) ?_
    · go_simp
    try simp only [Act.put, lt, l0, ls]
    refine Till.tk 6 (.string nm) rfl (fun w0 hS0 => ?_) ?_
    · obtain ⟨e', hr, _⟩ := hS0; have b4 := HC6.out _ _ _ hr; go_simp
    try simp only [Act.put, lt, l0, ls]
    refine Till.tk 7 (.string A1) rfl (fun w0 hS0 => ?_) ?_
    · have ha := HA1.out w0; go_simp
    try simp only [Act.put, lt, l0, ls]
    refine Till.tk 8 (.string x) rfl (fun w0 hS0 => ?_) ?_
    · go_simp
    try simp only [Act.put, lt, l0, ls]
    refine Till.tk 12 (.int .i64 er) rfl (fun w0 hS0 => ?_) ?_
    · go_simp
    try simp only [Act.put, lt, l0, ls]
    refine Till.tn 9 rfl (fun K hK => ?_)
    go_simp
    refine (HQx.out _ hKc.below).mono ?_
    rintro e w4 ⟨rfl, hb4⟩
    have hRd := hRc.keep hb4
    have hKd := hKc.trans (Kp.of_below hRc hb4)
    have hH4 : ∃ e', RunAt B g S out e' 1 w4 ∧ Kp B g w1 w4 := ⟨_, hRd, hKd⟩
    clear hb4
    go_wp2_with fail
    refine hK.out _ _ (fun _ => hH4) ?_
    clear hK K
    try simp only [Act.put, lt, l0, ls]
    refine Till.tk 10 (.string A2) rfl (fun w0 hS0 => ?_) ?_
    · have ha := HA2.out w0; go_simp
    try simp only [Act.put, lt, l0, ls]
    refine Till.tk 11 (.string A3) rfl (fun w0 hS0 => ?_) ?_
    · have ha := HA3.out w0; go_simp
    try simp only [Act.put, lt, l0, ls]
    refine Till.tn 13 rfl (fun K hK => ?_)
    go_simp
    refine (HMe.out _).mono ?_
    rintro e w5 ⟨rfl, hw5⟩
    subst hw5
    go_wp2_with fail
    refine hK.out _ _ (fun _ => hH4) ?_
    clear hK K
    try simp only [Act.put, lt, l0, ls]
    refine Till.tk 14 (.string A4) rfl (fun w0 hS0 => ?_) ?_
    · have ha := HA4.out w0; go_simp
    try simp only [Act.put, lt, l0, ls]
    refine Till.tk 15 (.string A5) rfl (fun w0 hS0 => ?_) ?_
    · have ha := HA5.out w0; go_simp
    try simp only [Act.put, lt, l0, ls]
    refine Till.tn 16 rfl (fun K hK => ?_)
    go_simp
    refine (HWr.out _ hRd).mono ?_
    rintro e w6 ⟨⟨u, rfl⟩, hr6, hk6⟩
    have HRe := Lib.hid hr6
    have HKe := Lib.hid (hKd.trans hk6)
    have hH6 : ∃ e', RunAt B g S out e' 1 w6 ∧ Kp B g w1 w6 := ⟨_, hr6, HKe.out⟩
    clear hr6 hk6
    go_wp2_with fail
    refine hK.out _ _ (fun _ => hH6) ?_
    clear hK K
    try simp only [Act.put, lt, l0, ls]
    refine Till.done (by kernel_rfl) ?_
-- TILL 2 END
    go_end0
    exact ⟨rfl, by show RunAt B g S out (err ++ msgT qf nm x er) 1 w6; rw [HA5e.out]; exact HRe.out, HK1.out.trans HKe.out⟩
/-- What the operands' loop holds. -/
def EachRel (B g : Nat) (S : List Value) (qf : ByteArray → ByteArray) (nm : ByteArray) (q : Bool) (TT : ByteArray → ByteArray → Int → Prop) (s0 : St) (L : List ByteArray) (w : World) (v : Value) (wr : World) : Prop :=
  ∃ (k : Nat) (rs : List (ByteArray × Int)), k ≤ L.length ∧ v = .int .i64 (k : Int) ∧ rs.length = k ∧ Hid (∀ (i : Nat) (x : ByteArray) (r : ByteArray × Int), (L.take k)[i]? = some x → rs[i]? = some r → TT x r.1 r.2) ∧ Hid ((eachM qf nm q (L.take k) rs s0).out.size ≤ s0.out.size + k * 2000000 ∧ (eachM qf nm q (L.take k) rs s0).err.size ≤ s0.err.size + k * 20000000) ∧ Hid (RunAt B g S (eachM qf nm q (L.take k) rs s0).out (eachM qf nm q (L.take k) rs s0).err (eachM qf nm q (L.take k) rs s0).st wr) ∧ Hid (Kp B g w wr)
set_option maxRecDepth 100000 in
set_option maxHeartbeats 8000000 in
theorem each_any (s0 : St) (h : RunAt B g S s0.out s0.err s0.st w) (nm : ByteArray) (q : Bool) (qf : ByteArray → ByteArray) (L : List ByteArray) (b0 : Nat) (a : Option Addr) (cap : Nat) (F : FuncId) (TT : ByteArray → ByteArray → Int → Prop)
    (h6 : S[6]? = some (.string nm)) (h8 : S[8]? = some (.slice a L.length cap)) (h9 : S[9]? = some (.bool q)) (HO : w.ownsRow b0 9 1 (.slice a L.length cap) L.length (strs L)) (hL : L.length ≤ 40) (hx : ∀ x ∈ L, x.size ≤ 1000) (hn : nm.size ≤ 100)
    (hF : ∀ args w, (callFunc F args).run Tryz.prog w = .ok (.enter F args) w)
    (HT : ∀ x ∈ L, ∀ (X : World) o e st, RunAt B g S o e st X → Kp B g w X → Calls Tryz.prog F #[.pointer (some ⟨g, 0, none⟩), .string x] X fun e w' => ∃ t er, e = .returned (.tuple #[.string t, .int .i64 er]) ∧ TT x t er ∧ t.size ≤ 1000000 ∧ Below X.heap.size X w')
    (HQ : (∃ x ∈ L, ∃ t er, TT x t er ∧ er ≠ 0) → q = false → QAt B qf w ∧ ∀ s, s.size ≤ 1000 → (qf s).size ≤ 1000000) (ho : s0.out.size ≤ 100000000) (he : s0.err.size ≤ 100000000) :
    Calls Tryz.prog 210 #[.pointer (some ⟨g, 0, none⟩), .func (.func F) #[.pointer (some ⟨g, 0, none⟩)] #[]] w fun e w' => e = .returned (.tuple #[]) ∧ ∃ rs : List (ByteArray × Int), rs.length = L.length ∧ (∀ (i : Nat) (x : ByteArray) (r : ByteArray × Int), L[i]? = some x → rs[i]? = some r → TT x r.1 r.2) ∧ (eachM qf nm q L rs s0).out.size ≤ s0.out.size + 100000000 ∧ (eachM qf nm q L rs s0).err.size ≤ s0.err.size + 800000000 ∧ RunAt B g S (eachM qf nm q L rs s0).out (eachM qf nm q L rs s0).err (eachM qf nm q L rs s0).st w' ∧ Kp B g w w' := by
  have HR := Lib.hid h
  have HOw := Lib.hid HO
  have HTt := Lib.hid HT
  have HQq := Lib.hid HQ
  have HX := Lib.hid hx
  have H6 := Lib.hid h6
  have H9 := Lib.hid h9
  have c8 := h.cell h8
  clear h HO HT HQ hx h6 h8 h9
  go_enter Tryz.func210, Tryz.ntmps210
  go_wp2_with fail
  go_loopw [13] (EachRel B g S qf nm q TT s0 L w) (fun v _ => L.length - (intOf v).toNat)
  case atStart => exact ⟨0, [], Nat.zero_le _, rfl, rfl, Lib.hid (fun i x r _ h2 => by simp at h2), Lib.hid ⟨by show s0.out.size ≤ _; omega, by show s0.err.size ≤ _; omega⟩, HR, Lib.hid (Kp.refl HR.out)⟩
  case round =>
    clear c8
    obtain ⟨k, rs, hk, rfl, hrs, HTr, HZ, HRr, HK⟩ := hrel
    by_cases hlt : k < L.length
    · have e1 : decide ((k : Int) < (L.length : Int)) = true := decide_eq_true (by omega)
      obtain ⟨x, hxk⟩ : ∃ x, L[k]? = some x := ⟨_, List.getElem?_eq_getElem hlt⟩
      have HXk := Lib.hid hxk
      have HMx := Lib.hid (List.mem_of_getElem? hxk)
      have HOr := Lib.hid (HK.out.owns HOw.out (by decide) (by decide))
      obtain ⟨gx, cx, hv, _, _⟩ := owns_some HOr.out (by omega)
      simp only [Value.slice.injEq] at hv
      obtain ⟨rfl, _, rfl⟩ := hv
      have c0 : wr.cell? ⟨gx, k, none⟩ = some (.string x) := owns_cell HOr.out (strs_at hxk)
      have hxs := HX.out x HMx.out
      have HCl := Lib.hid (HTt.out x HMx.out wr _ _ _ HRr.out HK.out)
      have hll : (L.take k).length = k := by rw [List.length_take]; omega
      have HSn := Lib.hid (fun (r : ByteArray × Int) => each_snoc qf nm q x r (L.take k) rs s0 (by rw [hll]; exact hrs))
      have HTk := Lib.hid (show L.take (k + 1) = L.take k ++ [x] from by
        obtain ⟨_, e⟩ := List.getElem?_eq_some_iff.1 hxk
        rw [List.take_succ_eq_append_getElem hlt, e])
      have HTn := Lib.hid (show ∀ t er, TT x t er → ∀ (i : Nat) (y : ByteArray) (r : ByteArray × Int), (L.take (k + 1))[i]? = some y → (rs ++ [(t, er)])[i]? = some r → TT y r.1 r.2 from fun t er htt i y r h1 h2 => by
        rw [HTk.out] at h1
        rcases Nat.lt_or_ge i k with c | c
        · rw [List.getElem?_append_left (by omega)] at h1 h2
          exact HTr.out i y r h1 h2
        · rw [List.getElem?_append_right (by omega)] at h1 h2
          have e0 : i - k = 0 := by
            have := (List.getElem?_eq_some_iff.1 h1).1
            simp at this
            omega
          rw [hll, e0] at h1
          rw [hrs, e0] at h2
          simp at h1 h2
          subst h1 h2
          exact htt)
      clear hxk hll HTr
      obtain ⟨hz1, hz2⟩ := HZ.out
      generalize eachM qf nm q (L.take k) rs s0 = s1 at HRr HSn hz1 hz2
      obtain ⟨o1, r1, t1⟩ := s1
      dsimp only at HRr HSn hz1 hz2
      have hk40 : k * 2000000 ≤ 78000000 ∧ k * 20000000 ≤ 780000000 := by omega
      have hcf := hF
      clear hF HZ
      go_wp2_with fail
      refine HCl.out.mono ?_
      rintro e w2 ⟨t, er, rfl, htt, hts, hb2⟩
      have HTT := Lib.hid htt
      have HR2 := Lib.hid (HRr.out.keep hb2)
      have HK2 := Lib.hid (HK.out.trans (Kp.of_below HRr.out hb2))
      clear htt hb2 hcf c0
      by_cases he : er = 0
      · subst he
        have HRow := Lib.hid (row_any HR2.out t (by omega))
        go_wp2_with (go_at_call 207; refine HRow.out.mono ?_; rintro e w3 ⟨rfl, hr3, hk3⟩; have HR3 := Lib.hid hr3; have HK3 := Lib.hid (HK2.out.trans hk3); clear hr3 hk3)
        have HE := Lib.hid (show eachM qf nm q (L.take (k + 1)) (rs ++ [(t, 0)]) s0 = ⟨rowO o1 t, r1, t1⟩ from by rw [HTk.out, HSn.out]; rfl)
        go_roundw
        case rel => exact ⟨k + 1, rs ++ [(t, 0)], by omega, by simp, by simp [hrs], Lib.hid (HTn.out t 0 HTT.out), Lib.hid (by rw [HE.out]; dsimp only; rw [rowO_size]; omega), Lib.hid (by rw [HE.out]; exact HR3.out), HK3⟩
        case measure => simp [intOf]; omega
      · have d1 : (er != 0) = true := by simpa using he
        have HE := Lib.hid (show eachM qf nm q (L.take (k + 1)) (rs ++ [(t, er)]) s0 = ⟨o1, if q = true then r1 else r1 ++ msgT qf nm x er, 1⟩ from by
          rw [HTk.out, HSn.out]
          unfold stepE
          rw [if_neg he]
          rfl)
        have HQx := Lib.hid (HQq.out ⟨x, HMx.out, t, er, HTT.out, he⟩)
        have hms := message_size er
        have hmz := msg_size qf nm x er
        have HFl := Lib.hid (fail_any HR2.out nm x q er qf H6.out H9.out (fun hq => (HQx.out hq).1.keep HK2.out.below) (by omega) (by omega) (fun hq => by
          have := (HQx.out hq).2 x hxs
          exact ⟨by omega, by omega⟩))
        have HZ2 := Lib.hid (show (if q = true then r1 else r1 ++ msgT qf nm x er).size ≤ r1.size + 20000000 from by
          split
          · omega
          · rename_i hq
            have := (HQx.out (by simpa using hq)).2 x hxs
            rw [app_size']
            omega)
        clear he hms hmz
        go_wp2_with (go_at_call 213; refine HFl.out.mono ?_; rintro e w3 ⟨rfl, hr3, hk3⟩; have HR3 := Lib.hid hr3; have HK3 := Lib.hid (HK2.out.trans hk3); clear hr3 hk3)
        go_roundw
        case rel => exact ⟨k + 1, rs ++ [(t, er)], by omega, by simp, by simp [hrs], Lib.hid (HTn.out t er HTT.out), Lib.hid (by rw [HE.out]; dsimp only; have := HZ2.out; omega), Lib.hid (by rw [HE.out]; exact HR3.out), HK3⟩
        case measure => simp [intOf]; omega
    · have hkn : k = L.length := by omega
      have e1 : decide ((k : Int) < (L.length : Int)) = false := decide_eq_false (by omega)
      rw [show L.take k = L by rw [hkn]; exact List.take_length] at HTr HZ HRr
      obtain ⟨hz1, hz2⟩ := HZ.out
      have HF2 := Lib.hid (show rs.length = L.length ∧ (eachM qf nm q L rs s0).out.size ≤ s0.out.size + 100000000 ∧ (eachM qf nm q L rs s0).err.size ≤ s0.err.size + 800000000 from ⟨by omega, by omega, by omega⟩)
      clear hkn
      go_wp2_with fail
      go_end0
      exact ⟨rfl, rs, HF2.out.1, HTr.out, HF2.out.2.1, HF2.out.2.2, HRr.out, HK.out⟩
end
end Go.Proofs.YtknfhphhcnbndaaGreatDoor.Z
