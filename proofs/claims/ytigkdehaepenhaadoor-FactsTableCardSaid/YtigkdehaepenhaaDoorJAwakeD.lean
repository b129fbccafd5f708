/-
  That the law's own first question is answered: a new file system's root is told. Conditions: the tables lie.
-/
import Derived.Test.YtigkdehaepenhaaDoorJNewD
import Derived.Test.YtigkdehaepenhaaDoorJTabD
set_option linter.unusedSimpArgs false
set_option linter.unusedVariables false
namespace Go.Proofs.YtigkdehaepenhaaDoor.J
open Go.Proofs.YtigkdehaepenhaaDoor.B
open Go.RowKit

def rootNd : V.Nd := V.addedNd (V.dirNd 493 0) 1 []
def rootNv : P.Nv := ⟨rootNd.dev, rootNd.ino, rootNd.kind, rootNd.mode, rootNd.uid, rootNd.gid, rootNd.size, rootNd.blocks, rootNd.links, rootNd.t0, rootNd.t1, rootNd.t2, rootNd.target⟩
theorem root_known : knownV rootNd = P.nodeV rootNv := rfl
theorem i64_of {x : Int} (h : 0 ≤ x ∧ x ≤ 9223372036854775807) : I64 x := ⟨by omega, h.2⟩
theorem root_num : NumJ rootNv := ⟨i64_of (by decide +kernel), i64_of (by decide +kernel), i64_of (by decide +kernel), i64_of (by decide +kernel), i64_of (by decide +kernel), i64_of (by decide +kernel), i64_of (by decide +kernel), i64_of (by decide +kernel), i64_of (by decide +kernel), i64_of (by decide +kernel), by decide +kernel, by decide +kernel, .inr (.inl (by decide +kernel))⟩
theorem root_fmt (qt : By) : fmtJ rootNv [114] qt [37, 110, 32, 37, 97] = [114, 32, 55, 53, 53] := by
  unfold fmtJ
  rw [S.fmtL_told _ _ (show oneJ rootNv [114] qt 110 = some [114] from rfl), S.fmtL_plain _ _ (by decide), S.fmtL_told _ _ (show oneJ rootNv [114] qt 97 = some (octL rootNv.mode) from rfl), S.fmtL_nil]
  decide +kernel

set_option maxHeartbeats 2000000 in
theorem awoken_any (w : World) (ht : FTab w) : Calls Tryd.prog 4 #[] w fun e w' => e = .returned (.bool true) ∧ Below w.heap.size w w' := by
  have HT := Lib.hid ht
  have HN := Lib.hid (newD_any w)
  have HF := Lib.hid (fun (h : V.Fsh) (X : World) (hM : h.M = [rootNd]) (H : V.Fs h X) (hb : Below w.heap.size w X) => by
    obtain ⟨x, hx, hxn⟩ : ∃ x, h.X[0]? = some x ∧ x.1 = rootNd := by
      have e : h.M[0]? = some rootNd := by rw [hM]; rfl
      unfold V.Fsh.M at e
      rw [List.getElem?_map] at e
      exact Option.map_eq_some_iff.1 e
    have hN : ∀ Y : World, Below X.heap.size X Y → Calls Tryd.prog 15 #[.pointer (some ⟨h.p, 0, none⟩), .int .i64 0] Y fun e w' => e = .returned (.tuple #[P.nodeV rootNv, .int .i64 0]) ∧ Below Y.heap.size Y w' := fun Y hY => by
      have := node_get h 0 x Y (H.keep hY) hx
      rw [hxn, root_known] at this
      exact this
    have hL : ∀ Y : World, Below X.heap.size X Y → Calls Tryd.prog 16 #[.pointer (some ⟨h.p, 0, none⟩), .int .i64 0] Y fun e w' => e = .returned (.tuple #[.string ⟨#[]⟩, .int .i64 1]) ∧ Below Y.heap.size Y w' := fun Y hY => (link_at h 0 x Y (H.keep hY) hx).mono (by
      rintro e w' ⟨rfl, rfl⟩
      have k : ¬ x.1.kind = 3 := by rw [hxn]; decide +kernel
      rw [if_neg k, if_neg k]
      exact ⟨rfl, Below.refl _ _⟩)
    exact formatOk_any (.pointer (some ⟨h.p, 0, none⟩)) 0 1 rootNv ⟨#[114]⟩ ⟨#[]⟩ ⟨#[37, 110, 32, 37, 97]⟩ id X hN hL (HT.out.keep hb) root_num (fun q => absurd q (by decide +kernel)) (by decide) (by decide) (by decide) (by decide +kernel))
  have hA : txt (fmtJ rootNv (⟨#[114]⟩ : ByteArray).data.toList (quotB id rootNv.kind ⟨#[114]⟩ ⟨#[]⟩).data.toList (⟨#[37, 110, 32, 37, 97]⟩ : ByteArray).data.toList) = ⟨#[114, 32, 55, 53, 53]⟩ := by
    show txt (fmtJ rootNv [114] _ [37, 110, 32, 37, 97]) = _
    rw [root_fmt]
    rfl
  simp only [hA] at HF
  clear ht hA
  go_enter Tryd.func4, Tryd.ntmps4
  go_wp2_with (first
    | (go_at_call 9; refine HN.out.mono ?_; rintro e w2 ⟨h, rfl, hM, hF, hb⟩; have HH := Lib.hid (HF.out h w2 hM hF hb); have HB2 := Lib.hid hb; clear hM hF hb)
    | (go_at_call 8; refine HH.out.mono ?_; rintro e w3 ⟨rfl, hb⟩; have HB3 := Lib.hid (HB2.out.trans (hb.mono HB2.out.size)); clear hb))
  go_ret
  exact ⟨rfl, HB3.out⟩
end Go.Proofs.YtigkdehaepenhaaDoor.J
