/-
  A run of realpath without options over a file system. Conditions: the file system and the arguments lie in memory; at most 38 arguments of at most 1000 bytes.
-/
import Derived.Test.YtknfhphhcnbndaaGreatDoorGZPath
import Derived.Test.YtknfhphhcnbndaaGreatDoorGROf
set_option linter.unusedVariables false
set_option linter.unusedSimpArgs false
namespace Go.Proofs.YtknfhphhcnbndaaGreatDoor.Z
open Go.Proofs.YtknfhphhcnbndaaGreatDoor.A
open Go.Proofs.YtknfhphhcnbndaaGreatDoor.B
open Go.RowKit

/-- What is asked of a file system's nodes, that real paths are told of it. -/
structure RealOk (M : List V.Nd) : Prop where
  pos : 0 < M.length
  few : M.length ≤ 3000
  ents : V.FewE M
  tgt : ∀ i, (V.linkT M i).size ≤ 5000
  ri : V.RI M
  du : V.DU M
/-- What real.Of answers. -/
def OfO (M : List V.Nd) (u gi : Int) (x s : ByteArray) (n er : Int) : Prop := V.OfR M (V.walkW M u gi x true) s n er ∧ (er ≠ 0 → V.OfE M (V.walkW M u gi x true) er)
theorem ofO_any {M : List V.Nd} {p : Nat} {u gi : Int} (x : ByteArray) (v0 w : World) (hf : V.Has v0 p M w) (ht : P.Tab w) (hO : RealOk M) (hx : x.size ≤ 1000000) :
    Calls Tryz.prog 38 #[.pointer (some ⟨p, 0, none⟩), .agg #[.int .i64 u, .int .i64 gi], .string x] w fun e w' => ∃ s n er, e = .returned (.tuple #[.string s, .int .i64 n, .int .i64 er]) ∧ (OfO M u gi x s n er ∧ s.size ≤ 1000000) ∧ Below w.heap.size w w' :=
  (V.ofE_any (u := u) (g := gi) x v0 w hf ht hO.pos (by have := hO.few; omega) hO.ents hO.tgt hO.ri hO.du hx).mono fun e w' ⟨s, n, er, h1, h2, h3⟩ => ⟨s, n, er, h1, ⟨h2, by
    rcases h2.1 with ⟨_, _, _, ns, _, _, hz⟩ | ⟨_, rfl, _⟩
    · have := hO.few; omega
    · exact Nat.zero_le _⟩, h3⟩
def nmR : ByteArray := ⟨#[114, 101, 97, 108, 112, 97, 116, 104]⟩
theorem found_real (xs : List ByteArray) : foundM (nmR :: xs) = some t_realpath := rfl
/-- What a run of realpath writes. -/
def RealW (M : List V.Nd) (u gi : Int) (qf : ByteArray → ByteArray) (L : List ByteArray) (s : St) : Prop := ∃ rs : List (ByteArray × Int), rs.length = L.length ∧ (∀ (i : Nat) (x : ByteArray) (r : ByteArray × Int), L[i]? = some x → rs[i]? = some r → ∃ n, OfO M u gi x r.1 n r.2) ∧ s = eachM qf nmR false L rs ⟨ByteArray.empty, ByteArray.empty, 0⟩
theorem realRun_any {M : List V.Nd} {p : Nat} (u gi wd now off : Int) (xs L : List ByteArray) (la : Option Addr) (lc : Nat) (v0 w : World) (hf : V.Has v0 p M w) (ht : P.Tab w) (hm : MaxT w) (hO : RealOk M) (HA : TxtL w la (nmR :: xs)) (hc : xs.length + 1 ≤ lc ∧ lc ≤ maxLen ∧ (la = none → lc = 0)) (hk : xs.length ≤ 38) (hz : ∀ x ∈ xs, x.size ≤ 1000) (hr : readM (specsM t_realpath) xs = .ok [] L) (hL : L ≠ []) (hL2 : L.length ≤ 40) (hLz : ∀ x ∈ L, x.size ≤ 1000) (qf : ByteArray → ByteArray)
    (HQ : (∃ x ∈ L, ∃ s n er, OfO M u gi x s n er ∧ er ≠ 0) → QAt w.heap.size qf w ∧ ∀ s, s.size ≤ 1000 → (qf s).size ≤ 1000000) :
    Calls Tryz.prog 23 #[.pointer (some ⟨p, 0, none⟩), .agg #[.int .i64 u, .int .i64 gi], .agg #[.int .i64 wd, .int .i64 now, .int .i64 off], .slice la (xs.length + 1) lc] w fun e w' => ∃ s : St, e = .returned (.tuple #[.string s.out, .string s.err, .int .i64 s.st]) ∧ RealW M u gi qf L s ∧ Below w.heap.size w w' := by
  have htr : treadM qf (fun _ => none) t_realpath xs = .ok [] L := by
    unfold treadM
    rw [hr]
    show aloneM t_realpath [] L = _
    unfold aloneM
    rw [if_neg hL]
  refine (run_any p u gi wd now off (nmR :: xs) la lc w qf (fun _ _ => none) (fun t o q s => o = [] → q = L → RealW M u gi qf L s) HA hc hm (by simp; omega) (fun x hx => by
    rcases List.mem_cons.1 hx with rfl | hx
    · decide
    · exact hz x hx) ?_ ?_ ?_ ?_).mono ?_
  · intro t hft o q hrd X lv oa oc hlv hb hro
    rw [found_real] at hft
    obtain rfl := Option.some.inj hft
    rw [List.tail_cons, hr] at hrd
    cases hrd
    obtain ⟨l0, rfl, _⟩ := hlv
    exact wrongNone_any t_realpath l0 _ _ [] oa oc X hro (by decide) (fun o ho => by cases ho)
  · intro t hft h
    rw [found_real] at hft
    obtain rfl := Option.some.inj hft
    exact absurd rfl (h [] L (by rw [List.tail_cons]; exact hr))
  · intro t hft o q a _ h
    cases h
  · intro t hft o q htd g W oa pa oc pc hR hb ho hp
    rw [found_real] at hft
    obtain rfl := Option.some.inj hft
    rw [List.tail_cons, htr] at htd
    cases htd
    refine (realpath_any [] L oa pa oc pc hR ho hp (by decide) hL2 hLz (by decide) qf (OfO M u gi) (fun x hx X hX => ofO_any x v0 X (hf.keep (hb.trans hX)) (ht.keep (hb.trans hX)) hO (by have := hLz x hx; omega)) (fun h _ => ⟨(HQ h).1.keep hb, (HQ h).2⟩)).mono ?_
    rintro e w' ⟨rfl, rs, S', h1, h2, h3, h4, h5, h6⟩
    exact ⟨rfl, _, S', fun _ _ => ⟨rs, h1, h2, rfl⟩, h3, h4, h5, h6⟩
  · rintro e w' ⟨s, rfl, h2, h3⟩
    refine ⟨s, rfl, ?_, h3⟩
    unfold RunR at h2
    rw [found_real] at h2
    simp only [List.tail_cons, htr] at h2
    exact h2 trivial trivial
end Go.Proofs.YtknfhphhcnbndaaGreatDoor.Z
