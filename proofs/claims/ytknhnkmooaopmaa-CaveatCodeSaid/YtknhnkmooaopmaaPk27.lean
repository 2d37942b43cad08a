/-
  Six parameters.
-/
import Derived.Test.YtknhnkmooaopmaaPk24
namespace Go.Proofs.Ytknhnkmooaopmaa
open Go.ChangeShapes Go.WideShapes Go.ChangeAt
open Go Go.RowKit

section
variable {H : Type} {enc : TypeId × Value → H} {P : Program} {w : World} {base : Nat} {spare : Nat → Bool} {held : Bool}
theorem trodAll_six {t t1 t2 t3 t4 t5 : TypeId} {args : Array Value} {ds : List (DataW H)} {ps : List MemPlace} (h : DataW.TrodAll enc P w base spare held [t, t1, t2, t3, t4, t5] args.toList ds ps) :
    ∃ v v1 v2 v3 v4 v5 d d1 d2 d3 d4 d5 p p1 p2 p3 p4 p5, args = #[v, v1, v2, v3, v4, v5] ∧ ds = [d, d1, d2, d3, d4, d5] ∧ ps = p ++ (p1 ++ (p2 ++ p3 ++ p4 ++ p5)) ∧ DataW.Trod enc P w base spare held t v d p ∧ DataW.Trod enc P w base spare held t1 v1 d1 p1 ∧ DataW.Trod enc P w base spare held t2 v2 d2 p2 ∧
      DataW.Trod enc P w base spare held t3 v3 d3 p3 ∧ DataW.Trod enc P w base spare held t4 v4 d4 p4 ∧ DataW.Trod enc P w base spare held t5 v5 d5 p5 := by
  obtain ⟨v, vs, d, ds', p, q, hargs, rfl, rfl, hd, hrest⟩ := trodAll_cons h
  have hrest' : DataW.TrodAll enc P w base spare held [t1, t2, t3, t4, t5] vs.toArray.toList ds' q := hrest
  obtain ⟨v1, v2, v3, v4, v5, d1, d2, d3, d4, d5, p1, p2, p3, p4, p5, hvs, rfl, rfl, h1, h2, h3, h4, h5⟩ := trodAll_five hrest'
  have hl : vs = [v1, v2, v3, v4, v5] := by have := congrArg Array.toList hvs; simpa using this
  subst hl
  exact ⟨v, v1, v2, v3, v4, v5, d, d1, d2, d3, d4, d5, p, p1, p2, p3, p4, p5, by cases args; simp_all, rfl, by simp, hd, h1, h2, h3, h4, h5⟩
theorem trodAll_mk6 {t t1 t2 t3 t4 t5 : TypeId} {v v1 v2 v3 v4 v5 : Value} {d d1 d2 d3 d4 d5 : DataW H} {p p1 p2 p3 p4 p5 : List MemPlace} (h : DataW.Trod enc P w base spare held t v d p) (h1 : DataW.Trod enc P w base spare held t1 v1 d1 p1)
    (h2 : DataW.Trod enc P w base spare held t2 v2 d2 p2) (h3 : DataW.Trod enc P w base spare held t3 v3 d3 p3) (h4 : DataW.Trod enc P w base spare held t4 v4 d4 p4) (h5 : DataW.Trod enc P w base spare held t5 v5 d5 p5) :
    DataW.TrodAll enc P w base spare held [t, t1, t2, t3, t4, t5] [v, v1, v2, v3, v4, v5] [d, d1, d2, d3, d4, d5] (p ++ (p1 ++ (p2 ++ (p3 ++ (p4 ++ p5))))) := ⟨p, p1 ++ (p2 ++ (p3 ++ (p4 ++ p5))), h, trodAll_mk5 h1 h2 h3 h4 h5, rfl⟩
end
end Go.Proofs.Ytknhnkmooaopmaa
