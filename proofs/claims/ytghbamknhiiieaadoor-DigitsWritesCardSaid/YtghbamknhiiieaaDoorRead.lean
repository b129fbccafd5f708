/-
  What digits.Read returns: the number whose decimal digits the text is, and true; else 0 and false. Conditions: the text has at most 2^47 bytes; the library's table and its two errors lie as their text lays them.
-/
import Derived.Test.YtghbamknhiiieaaDoorDec
import Derived.Test.YtghbamknhiiieaaDoorShelfP
import Derived.Test.YtghbamknhiiieaaDoorNumerals
import Derived.Shelf.Strconv.ErrVarParseInt
import Derived.Lib.AtoiErrMem
import Derived.Lib.IfaceNeq
import Derived.MapKept
import Derived.Laws.StructEq
namespace Go.Proofs.YtghbamknhiiieaaDoor
open Go.RowKit

/-- The library's two errors are there. -/
def Errs (w : World) : Prop := (∃ tp p, w.var? Tryd.prog "strconv.ErrSyntax" = some #[.iface tp p]) ∧ ∃ tp p, w.var? Tryd.prog "strconv.ErrRange" = some #[.iface tp p]

theorem gSyn : Tryd.prog.globalNamed "strconv.ErrSyntax" = some 3 := by kernel_rfl
theorem gRng : Tryd.prog.globalNamed "strconv.ErrRange" = some 4 := by kernel_rfl

theorem Errs.keep {w w' : World} (h : Errs w) (hb : Below w.heap.size w w') : Errs w' := by
  obtain ⟨⟨t, p, h1⟩, t2, p2, h2⟩ := h
  exact ⟨⟨t, p, var?_below hb gSyn (var_lt gSyn h1) h1⟩, t2, p2, var?_below hb gRng (var_lt gRng h2) h2⟩

def parsePost (s : ByteArray) (w : World) (e : Ending) (w' : World) : Prop :=
  (∃ v : Int, Hid (Lib.parseIntB 64 s.data.toList = .ok v) ∧ -9223372036854775808 ≤ v ∧ v ≤ 9223372036854775807 ∧ e = .returned (.tuple #[.int .i64 v, .nilIface]) ∧ Below w.heap.size w w') ∨
  (Hid (∀ v : Int, Lib.parseIntB 64 s.data.toList ≠ .ok v) ∧ ∃ (z : Int) (N : Nat), e = .returned (.tuple #[.int .i64 z, .iface 66 (.pointer (some ⟨N, 0, none⟩))]) ∧ Below w.heap.size w w')

theorem parse_any (s : ByteArray) (w : World) (hs : s.size ≤ 281474976710656) (he : Errs w) :
    Calls Tryd.prog 25 #[.string s, .int .i64 10, .int .i64 64] w (parsePost s w) := by
  obtain ⟨⟨t, p, h1⟩, t2, p2, h2⟩ := he
  cases h : Lib.parseIntB 64 s.data.toList with
  | ok v =>
    have hb := Lib.parseIntB_bounds h
    refine (Any.strconv_ParseInt_10_at64_ok Tryd.laysC174 s (by omega) v h w).mono ?_
    rintro e w' ⟨rfl, hw⟩
    refine .inl ⟨v, Lib.hid h, by omega, by omega, rfl, ?_⟩
    rcases hw with rfl | ⟨t, rfl⟩
    · exact Below.refl _ _
    · exact Lib.bytesWorld_below _ _ _
  | range =>
    refine (Any.strconv_ParseInt_10_at64_range_var Tryd.laysC174 s hs h t2 p2 w h2).mono ?_
    rintro e w' ⟨N, rfl, _, _, hb⟩
    exact .inr ⟨Lib.hid (by rw [h]; intro v; simp), _, N, rfl, hb⟩
  | _ =>
    refine (Any.strconv_ParseInt_10_at64_syntax_var Tryd.laysC174 s hs h t p w h1).mono ?_
    rintro e w' ⟨N, rfl, _, _, hb⟩
    exact .inr ⟨Lib.hid (by rw [h]; intro v; simp), _, N, rfl, hb⟩

def readPost (s : ByteArray) (w : World) (e : Ending) (w' : World) : Prop :=
  (∃ v : Int, Hid (Lib.itoa v = s.data.toList) ∧ -9223372036854775808 ≤ v ∧ v ≤ 9223372036854775807 ∧ e = .returned (.tuple #[.int .i64 v, .bool true]) ∧ Below w.heap.size w w') ∨
  (Hid (∀ v : Int, -9223372036854775808 ≤ v → v ≤ 9223372036854775807 → Lib.itoa v ≠ s.data.toList) ∧ e = .returned (.tuple #[.int .i64 0, .bool false]) ∧ Below w.heap.size w w')

theorem no_number {s : ByteArray} (h : ∀ v : Int, Lib.parseIntB 64 s.data.toList ≠ .ok v) : ∀ v : Int, -9223372036854775808 ≤ v → v ≤ 9223372036854775807 → Lib.itoa v ≠ s.data.toList := by
  intro v h1 h2 he
  exact h v (by rw [← he]; exact parse_itoa v h1 h2)

theorem only_number {s : ByteArray} {v : Int} (hp : Lib.parseIntB 64 s.data.toList = .ok v) (hne : Lib.itoa v ≠ s.data.toList) : ∀ u : Int, -9223372036854775808 ≤ u → u ≤ 9223372036854775807 → Lib.itoa u ≠ s.data.toList := by
  intro u h1 h2 he
  have := parse_itoa u h1 h2
  rw [he, hp] at this
  injection this with this
  exact hne (this ▸ he)

set_option maxHeartbeats 400000 in
theorem read_any (s : ByteArray) (w : World) (hs : s.size ≤ 281474976710656) (ht : Tab w) (he : Errs w) :
    Calls Tryd.prog 8 #[.string s] w (readPost s w) := by
  have HT := Lib.hid ht
  have HE := Lib.hid he
  clear ht he
  go_enter Tryd.func8, Tryd.ntmps8
  go_wp2_with fail
  refine (parse_any s _ hs HE.out).mono ?_
  rintro e w1 (⟨v, hp, v1, v2, rfl, hb⟩ | ⟨hp, z, N, rfl, hb⟩)
  · have HB := Lib.hid hb
    clear hb
    go_wp2_with fail
    refine (dec_any v _ v1 v2 (HT.out.keep HB.out)).mono ?_
    rintro e w2 ⟨rfl, hb⟩
    have HB2 := Lib.hid (below_two HB.out hb)
    clear hb
    by_cases hc : Lib.itoa v = s.data.toList
    · have HC := Lib.hid hc
      have hs' : (⟨(Lib.itoa v).toArray⟩ : ByteArray) = s := by rw [hc]
      rw [hs']
      clear hs' hc
      go_wp2_with fail
      go_ret2
      exact .inl ⟨v, HC, v1, v2, rfl, HB2.out⟩
    · have HC := Lib.hid hc
      have hne : ((⟨(Lib.itoa v).toArray⟩ : ByteArray).toList == s.toList) = false := by
        rw [← beq_toListBytes, Bool.eq_false_iff]
        intro h
        have h' : (⟨(Lib.itoa v).toArray⟩ : ByteArray) = s := (Go.MapKept.bytes_beq _ _).1 h
        exact hc (by rw [← h'])
      generalize (⟨(Lib.itoa v).toArray⟩ : ByteArray) = T at *
      clear hc
      go_wp2_with fail
      go_ret2
      exact .inr ⟨Lib.hid (only_number hp.out HC.out), rfl, HB2.out⟩
  · have HB := Lib.hid hb
    clear hb
    go_wp2_with fail
    go_ret2
    exact .inr ⟨Lib.hid (no_number hp.out), rfl, HB.out⟩
end Go.Proofs.YtghbamknhiiieaaDoor
