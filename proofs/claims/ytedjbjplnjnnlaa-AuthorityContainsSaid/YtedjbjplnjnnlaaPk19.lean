/-
  The reference's Meet, where the answer is the empty one for the fields alone.
-/
import Derived.Deep.DeepCutAuto
import Derived.Test.YtedjbjplnjnnlaaPk7
namespace Go.Proofs.Ytedjbjplnjnnlaa
open Go Go.RowKit Sh Leaf

/-- What Meet refuses. -/
def mbad (RA RB na nb ea eb eq : Bool) : Bool := !RA || (!RB || (na || (nb || (!ea && (!eb && !eq)))))
/-- The three blocks of a call of Meet. -/
structure Mt (w wx : World) (ra rb : Array Value) : Prop where
  a : Whole wx w.heap.size 25 ra
  b : Whole wx (w.heap.size + 1) 25 rb
  z : ARow wx (w.heap.size + 2) false 0 0 0 0 0 (.slice none 0 0) []
  low : Below w.heap.size w wx
theorem Mt.below {w wx wy : World} {ra rb : Array Value} (h : Mt w wx ra rb) {B : Nat} (hb : Below B wx wy) (hB : w.heap.size + 3 ≤ B) : Mt w wy ra rb :=
  ⟨Whole.below h.a hb (by omega), Whole.below h.b hb (by omega), Whole.below h.z hb (by omega), h.low.trans (hb.mono (by omega))⟩
theorem mt_new (w : World) (ra rb : Array Value) : Mt w (((w.alloc (.cells ra 25)).alloc (.cells rb 25)).alloc (.cells #[.bool false, .int .u64 0, .int .u64 0, .int .u64 0, .int .i64 0, .int .i64 0, .slice none 0 0, .string { data := #[] }] 25)) ra rb where
  a := ((Whole.here _ _ _).alloc _).alloc _
  b := Whole.alloc (Whole.at_ _ _ _ _ (by simp)) _
  z := by
    have e : sof [] = { data := #[] } := by unfold sof; rfl
    show Whole _ _ _ #[_, _, _, _, _, _, _, .string (sof [])]
    rw [e]
    exact Whole.at_ _ _ _ _ (by simp)
  low := (ab_below w _ _).alloc (by simp; omega) _
set_option maxRecDepth 100000 in
set_option maxHeartbeats 2000000 in
theorem rmeet_bad (na nb : Bool) (za la da loA hiA zb lb db loB hiB : Int) (A1 A2 : Option Addr) (n1 c1 n2 c2 : Nat) (ha hb : List B8) (RA RB ea eb eq : Bool) (w w1 : World) (hw1 : w1 = ((w.alloc (.cells (arow na za la da loA hiA (.slice A1 n1 c1) ha) 25)).alloc (.cells (arow nb zb lb db loB hiB (.slice A2 n2 c2) hb) 25)).alloc (.cells #[.bool false, .int .u64 0, .int .u64 0, .int .u64 0, .int .i64 0, .int .i64 0, .slice none 0 0, .string { data := #[] }] 25))
    (hbad : mbad RA RB na nb ea eb eq = true) (hea : (sof ha).toList.isEmpty = ea) (heb : (sof hb).toList.isEmpty = eb) (heq : ((sof ha).toList == (sof hb).toList) = eq)
    (kA : ∀ W, Below w1.heap.size w1 W → Calls Try.prog 14 #[.agg (arow na za la da loA hiA (.slice A1 n1 c1) ha)] W fun e w' => e = .returned (.bool RA) ∧ Below w1.heap.size w1 w')
    (kB : ∀ W, Below w1.heap.size w1 W → Calls Try.prog 14 #[.agg (arow nb zb lb db loB hiB (.slice A2 n2 c2) hb)] W fun e w' => e = .returned (.bool RB) ∧ Below w1.heap.size w1 w') :
    Calls Try.prog 24 #[.agg (arow na za la da loA hiA (.slice A1 n1 c1) ha), .agg (arow nb zb lb db loB hiB (.slice A2 n2 c2) hb)] w fun e w' => e = .returned (.agg (arow true 0 0 0 0 0 (.slice none 0 0) [])) ∧ Below w.heap.size w w' := by
  have hM : Mt w w1 (arow na za la da loA hiA (.slice A1 n1 c1) ha) (arow nb zb lb db loB hiB (.slice A2 n2 c2) hb) := by rw [hw1]; exact mt_new w _ _
  have hsz : w1.heap.size = w.heap.size + 3 := by rw [hw1]; simp
  have esn : sof [] = { data := #[] } := by unfold sof; rfl
  have HM : Hid (∀ W, Below w1.heap.size w1 W → Mt w W (arow na za la da loA hiA (.slice A1 n1 c1) ha) (arow nb zb lb db loB hiB (.slice A2 n2 c2) hb)) := Lib.hid fun W h => hM.below h (by omega)
  have hbr := Below.refl w1.heap.size w1
  have HSN := Lib.hid esn
  clear hM hsz esn
  go_enter Try.func24, Try.ntmps24
  go_upto_region 1 with fail
  go_cut [41] (fun v wx => v = .bool true ∧ Mt w wx (arow na za la da loA hiA (.slice A1 n1 c1) ha) (arow nb zb lb db loB hiB (.slice A2 n2 c2) hb))
  case first =>
    go_wp2_with fail
    rw [← hw1]
    clear hw1
    refine (kA _ hbr).mono ?_
    rintro e w2 ⟨rfl, hb2⟩
    have hM2 := HM.out w2 hb2
    obtain ⟨a0, a1, a2, a3, a4, a5, a6, a7⟩ := ARow.cells hM2.a
    obtain ⟨b0, b1, b2, b3, b4, b5, b6, b7⟩ := ARow.cells hM2.b
    have HM2 := Lib.hid hM2
    clear kA hbr hM2
    cases RA
    · clear hb2 kB
      go_wp2_with fail
      go_meet
      exact ⟨rfl, HM2.out⟩
    go_wp2_with fail
    refine (kB _ hb2).mono ?_
    rintro e w3 ⟨rfl, hb3⟩
    have hM3 := HM.out w3 hb3
    clear a0 a1 a2 a3 a4 a5 a6 a7 b0 b1 b2 b3 b4 b5 b6 b7
    obtain ⟨a0, a1, a2, a3, a4, a5, a6, a7⟩ := ARow.cells hM3.a
    obtain ⟨b0, b1, b2, b3, b4, b5, b6, b7⟩ := ARow.cells hM3.b
    have HM3 := Lib.hid hM3
    clear kB hM3 hb2 hb3 HM2
    cases RB
    · go_wp2_with fail
      go_meet
      exact ⟨rfl, HM3.out⟩
    cases na
    case true =>
      go_wp2_with fail
      go_meet
      exact ⟨rfl, HM3.out⟩
    cases nb
    case true =>
      go_wp2_with fail
      go_meet
      exact ⟨rfl, HM3.out⟩
    cases ea
    case true => cases hbad
    cases eb
    case true => cases hbad
    cases eq
    case true => cases hbad
    go_wp2_with fail
    go_meet
    exact ⟨rfl, HM3.out⟩
  case rest =>
    obtain ⟨rfl, hM⟩ := hcut
    have HM2 := Lib.hid hM
    clear hM hbad hea heb heq kA kB hbr HM hw1
    go_wp2_with (with_reducible refine wpList_store_aut rfl _ _ rfl (g := w.heap.size + 2) rfl rfl HM2.out.z (by with_unfolding_all rfl) (by with_unfolding_all rfl) (by with_unfolding_all rfl) ?_)
    refine bodyPost_ret (results_aut (g := w.heap.size + 2) Try.results24 _ rfl rfl (Whole.setRow HM2.out.z _)) rfl ?_
    refine ⟨by rw [← HSN.out], below_setRow HM2.out.low (by omega) _⟩
end Go.Proofs.Ytedjbjplnjnnlaa
