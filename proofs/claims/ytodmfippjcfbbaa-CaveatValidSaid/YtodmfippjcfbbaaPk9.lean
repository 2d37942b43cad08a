/-
  What a parameter is: a caveat.
-/
import Derived.Test.YtodmfippjcfbbaaPk7
import Derived.Test.YtodmfippjcfbbaaPk8
import Derived.Test.YtodmfippjcfbbaaPk2
namespace Go.Proofs.Ytodmfippjcfbbaa
open Go.ChangeShapes Go.WideShapes Go.ChangeAt Go.Joins Go.Deep
open Go Go.RowKit Sh Leaf

section
variable {H : Type} {enc : TypeId × Value → H} {P : Program} {w : World} {base : Nat} {spare : Nat → Bool} {held : Bool}
/-- A struct, field by field. -/
theorem open_parts {m : Nat} {t : TypeId} {fs : Array Field} {cs : List Value} {x : DataW H × List MemPlace} (hs : P.underlying t = some (.struct fs)) (h : DataW.trod enc P w base spare held m t cs = some x) :
    cs.length = P.cellsOf t ∧ ∀ (i : Nat) (f : Field), fs[i]? = some f → ∀ (k : Nat), P.cellsOf f.type = k → ∀ (part : List Value), (cs.drop f.offset).take k = part → ∃ (n : Nat) (y : DataW H × List MemPlace), DataW.trod enc P w base spare held n f.type part = some y := by
  obtain ⟨xs, n, _, hx, hl, hlen, hy⟩ := DataW.trod_struct hs h
  refine ⟨hl, fun i f hf k hk part hp => ?_⟩
  subst hk hp
  have hi : i < fs.size := (Array.getElem?_eq_some_iff.1 hf).1
  exact ⟨n, xs[i]'(by omega), by rw [hy i f hf]; exact List.getElem?_eq_getElem (by omega)⟩
end
section
variable {H : Type} {enc : TypeId × Value → H} {w : World}
set_option maxRecDepth 100000 in
/-- A caveat as a parameter. -/
theorem cav_arg {r : Reach} {b0 : Nat} {v : Value} {d : DataW H} {p : List MemPlace} (hv : Value.okWide Try.prog w r b0 27 v) (h : DataW.Trod enc Try.prog w 0 (fun _ => true) true 27 v d p) :
    ∃ (th : Bool) (q : Prd) (pa : Int) (A1 : Option Addr) (x : List B8) (c1 : Nat) (A2 : Option Addr) (y : List B8) (c2 : Nat), v = .agg (cvrow th q pa (.slice A1 x.length c1) (.slice A2 y.length c2)) ∧ Bytes w (fun _ => True) (.slice A1 x.length c1) x ∧ Bytes w (fun _ => True) (.slice A2 y.length c2) y ∧ q.mask < 18446744073709551616 ∧ q.name.length ≤ 9223372036854775807 := by
  obtain ⟨cs, rfl, _⟩ := okWide_struct Try.underlying27 hv
  obtain ⟨fuel, ht⟩ := h
  obtain ⟨hl, hc⟩ := open_parts Try.underlying27 ht
  rw [Value.cells] at hl hc
  rw [show Try.prog.cellsOf 27 = 10 by kernel_rfl] at hl
  obtain ⟨L⟩ := cs
  match L, hl with
  | [a0, a1, a2, a3, a4, a5, a6, a7, a8, a9], _ =>
    obtain ⟨n0, y0, h0⟩ := hc 0 _ rfl 1 (by kernel_rfl) [a0] rfl
    obtain ⟨n1, y1, h1⟩ := hc 1 _ rfl 6 (by kernel_rfl) [a1, a2, a3, a4, a5, a6] rfl
    obtain ⟨n2, y2, h2⟩ := hc 2 _ rfl 1 (by kernel_rfl) [a7] rfl
    obtain ⟨n3, y3, h3⟩ := hc 3 _ rfl 1 (by kernel_rfl) [a8] rfl
    obtain ⟨n4, y4, h4⟩ := hc 4 _ rfl 1 (by kernel_rfl) [a9] rfl
    obtain ⟨-, hp⟩ := open_parts Try.underlying24 h1
    obtain ⟨m0, u0, p0⟩ := hp 0 _ rfl 1 (by kernel_rfl) [a1] rfl
    obtain ⟨m1, u1, p1⟩ := hp 1 _ rfl 1 (by kernel_rfl) [a2] rfl
    obtain ⟨m2, u2, p2⟩ := hp 2 _ rfl 1 (by kernel_rfl) [a3] rfl
    obtain ⟨m3, u3, p3⟩ := hp 3 _ rfl 1 (by kernel_rfl) [a4] rfl
    obtain ⟨m4, u4, p4⟩ := hp 4 _ rfl 1 (by kernel_rfl) [a5] rfl
    obtain ⟨m5, u5, p5⟩ := hp 5 _ rfl 1 (by kernel_rfl) [a6] rfl
    obtain ⟨th, hth, _⟩ := DataW.trod_bool Try.underlying4 h0
    obtain rfl : a0 = .bool th := by simpa using hth
    obtain ⟨z0, rfl, _⟩ := cell_int Try.underlying3 p0
    obtain ⟨z1, rfl, w1⟩ := cell_int Try.underlying22 p1
    obtain ⟨z2, rfl, _⟩ := cell_int Try.underlying3 p2
    obtain ⟨z3, rfl, _⟩ := cell_int Try.underlying3 p3
    obtain ⟨l4, rfl, hl4⟩ := cell_str Try.underlying9 p4
    obtain ⟨z5, rfl, _⟩ := cell_int Try.underlying3 p5
    obtain ⟨pa, rfl, _⟩ := cell_int Try.underlying3 h2
    have hw1 : 0 ≤ z1 ∧ z1 < 18446744073709551616 := by simp [Lit.wf, IntKind.min, IntKind.max, IntKind.signed, IntKind.bits] at w1; omega
    obtain ⟨m, rfl⟩ := Int.eq_ofNat_of_zero_le hw1.1
    have hs8 : ∃ a n c, a8 = .slice a n c := by
      rcases open_ints Try.underlying25 Try.underlying5 row_c1 h3 with ⟨hcs, -⟩ | ⟨a, len, cap, zs, hcs, -⟩
      · exact ⟨none, 0, 0, by simpa using hcs⟩
      · exact ⟨some a, len, cap, by simpa using hcs⟩
    have hs9 : ∃ a n c, a9 = .slice a n c := by
      rcases open_ints Try.underlying25 Try.underlying5 row_c1 h4 with ⟨hcs, -⟩ | ⟨a, len, cap, zs, hcs, -⟩
      · exact ⟨none, 0, 0, by simpa using hcs⟩
      · exact ⟨some a, len, cap, by simpa using hcs⟩
    obtain ⟨g8, k8, j8, rfl⟩ := hs8
    obtain ⟨g9, k9, j9, rfl⟩ := hs9
    obtain ⟨A1, x, c1, e8, hb8⟩ := bytes_of_arg (v := .slice g8 k8 j8) (d := y3.1) (p := y3.2) ⟨_, _, _, rfl⟩ ⟨n3, h3⟩
    obtain ⟨A2, y, c2, e9, hb9⟩ := bytes_of_arg (v := .slice g9 k9 j9) (d := y4.1) (p := y4.2) ⟨_, _, _, rfl⟩ ⟨n4, h4⟩
    rw [e8] at hb8 ⊢
    rw [e9] at hb9 ⊢
    exact ⟨th, ⟨z0, m, z2, z3, l4, z5⟩, pa, A1, x, c1, A2, y, c2, rfl, hb8, hb9, by show m < _; omega, hl4⟩
end
end Go.Proofs.Ytodmfippjcfbbaa
