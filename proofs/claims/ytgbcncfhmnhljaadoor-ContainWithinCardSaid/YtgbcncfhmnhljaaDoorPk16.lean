/-
  The program's onDay: the minutes of a day.
  The program's restrict: an authority restricted by a predicate.
-/
import Derived.Laws.Bits64b
import Derived.BigQuiet
import Derived.Test.YtgbcncfhmnhljaaDoorPk15
import Derived.Test.YtgbcncfhmnhljaaDoorPk10
import Derived.BigRegion
import Derived.Deep.DeepCutAuto
namespace Go.Proofs.YtgbcncfhmnhljaaDoor
open Go Go.RowKit Sh Leaf

theorem and_pow (D i : Nat) : (D &&& 2 ^ i = 0) ↔ ¬ D / 2 ^ i % 2 = 1 := by
  have h1 := Nat.testBit_eq_decide_div_mod_eq (x := D) (i := i)
  constructor
  · intro h e
    have := Nat.testBit_and D (2 ^ i) i
    rw [h, Nat.testBit_two_pow_self, h1, decide_eq_true e] at this
    simp at this
  · intro h
    apply Nat.eq_of_testBit_eq
    intro j
    rw [Nat.testBit_and, Nat.testBit_two_pow, Nat.zero_testBit]
    by_cases e : i = j
    · subst e; rw [h1, decide_eq_false h]; rfl
    · rw [decide_eq_false e, Bool.and_false]
set_option maxRecDepth 100000 in
set_option maxHeartbeats 2000000 in
theorem aonday {w : World} {Q : Nat → Prop} {x : Value} {a : Aut} (hx : Av w Q x a) (hw : Wk a) (d : Nat) (hd : d ≤ 100000) :
    Calls Tryd.prog 51 #[x, .int .i64 (d : Int)] w fun e w' => (∃ A c n, e = .returned (.slice A n c) ∧ n = (ond a d).length ∧ Spn w' (fun g => w.heap.size ≤ g) A c (ond a d)) ∧ Below w.heap.size w w' := by
  obtain ⟨A, n, rfl, hS, hab⟩ := hx
  obtain ⟨no, z, l, D, lo, hi, da, nm⟩ := a
  unfold avl
  simp only at hS ⊢
  have hbt := fun W => abit d (by omega) W
  have hD : D < 18446744073709551616 := hab.2.2.1
  obtain ⟨pw, hpw⟩ : ∃ p, p = 2 ^ (d % 7) := ⟨_, rfl⟩
  have hpl : pw < 18446744073709551616 := by
    have : (2 : Nat) ^ (d % 7) < 2 ^ 64 := (Nat.pow_lt_pow_iff_right (by omega)).2 (by omega)
    omega
  have hand := bits_and_u64_nat D pw hD hpl
  have hz := and_pow D (d % 7)
  rw [← hpw] at hbt
  obtain ⟨E, hE⟩ : ∃ E, E = D &&& pw := ⟨_, rfl⟩
  rw [← hpw, ← hE, hpw] at hz
  rw [← hE] at hand
  have hlo := hw.lo
  have hhi := hw.hi
  simp only at hlo hhi
  have w1 : IntKind.i64.wrap ((d : Int) * 1440) = (d : Int) * 1440 := by rw [IntKind.wrap_i64]; omega
  have w2 : IntKind.i64.wrap (lo - (d : Int) * 1440) = lo - (d : Int) * 1440 := by rw [IntKind.wrap_i64]; omega
  have w3 : IntKind.i64.wrap (hi - (d : Int) * 1440) = hi - (d : Int) * 1440 := by rw [IntKind.wrap_i64]; omega
  have HW := Lib.hid hw
  have HS := Lib.hid (hS.mono (Q' := fun g => g < w.heap.size) fun g hg _ => hg)
  have HLEN : Hid (da.length ≤ 1440) := Lib.hid (by have := hw.len; simpa using this)
  obtain ⟨p, hp⟩ : ∃ p, p = lo - (d : Int) * 1440 := ⟨_, rfl⟩
  obtain ⟨q, hq⟩ : ∃ q, q = hi - (d : Int) * 1440 := ⟨_, rfl⟩
  have hpq : sbd (p, q) := by
    rw [hp, hq]
    exact ⟨⟨by simp only; omega, by simp only; omega⟩, ⟨by simp only; omega, by simp only; omega⟩⟩
  have HPQ := Lib.hid hpq
  have HO : Hid (ond ⟨no, z, l, D, lo, hi, da, nm⟩ d = if D / 2 ^ (d % 7) % 2 = 1 then cmn da [(p, q)] else []) := Lib.hid (by rw [hp, hq]; rfl)
  have HPE := Lib.hid hp
  have HQE := Lib.hid hq
  clear hw hS hpq hp hq hab hlo hhi hE hpl hD
  by_cases hb : D / 2 ^ (d % 7) % 2 = 1
  · have he : ¬ E = 0 := fun h => hz.1 h hb
    have heb : ((E : Int) == 0) = false := by simp [he]
    have HO2 := Lib.hid (HO.out.trans (if_pos hb))
    clear hb hz HO he hpw
    go_enter Tryd.func51, Tryd.ntmps51
    go_wp2_with fail
    go_quiet ((go_at_call 52; exact Calls.quiet_of_same (hbt _)))
    go_wp2_with fail
    rw [← HPE.out, ← HQE.out]
    have hB : Below w.heap.size w (((w.alloc (.cells (arow no z l D lo hi (.slice A da.length n) nm) 25)).drewN nq).alloc (.cells #[.int .i64 p, .int .i64 q] 50)) := (below_drewN ((Below.refl w.heap.size w).alloc (Nat.le_refl _) _) nq).alloc (by simp) _
    have h1 := HS.out.low hB
    have h2 : Spn (((w.alloc (.cells (arow no z l D lo hi (.slice A da.length n) nm) 25)).drewN nq).alloc (.cells #[.int .i64 p, .int .i64 q] 50)) (fun b => b = w.heap.size + 1) (some ⟨w.heap.size + 1, 0, none⟩) 1 [(p, q)] := seq_one (f := scl) (p := (p, q)) (Whole.at_ ((w.alloc (.cells (arow no z l D lo hi (.slice A da.length n) nm) 25)).drewN nq) _ _ _ (by simp)) rfl HPQ.out
    refine (acommon (n2 := 1) h1 h2 (by have := HLEN.out; simp only [List.length_cons, List.length_nil]; omega) rfl rfl).mono ?_
    rintro e w' ⟨⟨A2, c2, n2, rfl, e2, hS2⟩, hb2⟩
    have HF : Hid ((∃ A c m, (Ending.returned (.slice A2 n2 c2) : Ending) = .returned (.slice A m c) ∧ m = (ond ⟨no, z, l, D, lo, hi, da, nm⟩ d).length ∧ Spn w' (fun g => w.heap.size ≤ g) A c (ond ⟨no, z, l, D, lo, hi, da, nm⟩ d)) ∧ Below w.heap.size w w') := Lib.hid (by
      rw [HO2.out]
      have hs := hB.size
      exact ⟨⟨A2, c2, n2, rfl, e2, hS2.mono fun g _ hg => Nat.le_trans hs hg⟩, hB.trans (hb2.mono hs)⟩)
    clear hB h1 h2 e2 hS2 hb2 HPQ HS HO2
    go_wp2_with fail
    go_ret
    exact HF.out
  · have he : E = 0 := hz.2 hb
    have heb : ((E : Int) == 0) = true := by simp [he]
    have HO2 := Lib.hid (HO.out.trans (if_neg hb))
    clear hb hz HO hpw w1 w2 w3
    subst he
    go_enter Tryd.func51, Tryd.ntmps51
    go_wp2_with fail
    go_quiet ((go_at_call 52; exact Calls.quiet_of_same (hbt _)))
    go_wp2_with fail
    have hB : Below w.heap.size w ((w.alloc (.cells (arow no z l D lo hi (.slice A da.length n) nm) 25)).drewN nq) := below_drewN ((Below.refl w.heap.size w).alloc (Nat.le_refl _) _) nq
    go_ret
    rw [HO2.out]
    exact ⟨⟨none, 0, 0, rfl, rfl, Seq.nil _ _⟩, hB⟩
end Go.Proofs.YtgbcncfhmnhljaaDoor
namespace Go.Proofs.YtgbcncfhmnhljaaDoor
open Go Go.RowKit Sh Leaf

/-- restrict answers with the authority m. -/
def RsA (w : World) (Q : Nat → Prop) (m : Aut) (e : Ending) (w' : World) : Prop := (∃ y, e = .returned y ∧ Av w' (fun g => Q g ∨ w.heap.size ≤ g) y m) ∧ Below w.heap.size w w'
theorem lowq {α : Type} {f : α → List Value} {ok : α → Prop} {w w' : World} {Q : Nat → Prop} {A : Option Addr} {c : Nat} {l : List α} (h : Seq f ok w (fun g => Q g ∧ g < w.heap.size) A c l) (hb : Below w.heap.size w w') : Seq f ok w' (fun g => Q g ∨ w.heap.size ≤ g) A c l :=
  (h.keep hb.size fun g _ hq => hb.block g hq.2).mono fun _ _ hq => .inl hq.1
theorem RsA.mk {w w' : World} {Q : Nat → Prop} {m : Aut} {A : Option Addr} {c n : Nat} (hn : n = m.daily.length) (hS : Spn w' (fun g => Q g ∨ w.heap.size ≤ g) A c m.daily) (hb : Below w.heap.size w w') (hab : abd m) :
    RsA w Q m (.returned (.agg (arow m.none m.zones m.lines m.days m.lo m.hi (.slice A n c) m.holder))) w' := ⟨⟨_, rfl, A, c, by rw [hn], hS, hab⟩, hb⟩
theorem RsA.mk4 {w w' : World} {Q : Nat → Prop} {no : Bool} {z l D : Nat} {lo hi pl ph X Y : Int} {da : List (Int × Int)} {nm : List B8} {A : Option Addr} {c n : Nat} (hn : n = da.length) (e1 : max lo pl = X) (e2 : min hi ph = Y) (hS : Spn w' (fun g => Q g ∨ w.heap.size ≤ g) A c da) (hb : Below w.heap.size w w') (hab : abd ⟨no, z, l, D, max lo pl, min hi ph, da, nm⟩) :
    RsA w Q ⟨no, z, l, D, max lo pl, min hi ph, da, nm⟩ (.returned (.agg (arow no z l D X Y (.slice A n c) nm))) w'.drew := by
  subst e1 e2
  exact RsA.mk (m := ⟨no, z, l, D, max lo pl, min hi ph, da, nm⟩) hn hS hb.drew hab
theorem b3_below (w : World) (o1 o2 o3 : Obj) : Below w.heap.size w (((w.alloc o1).alloc o2).alloc o3) := (ab_below w o1 o2).alloc (by simp; omega) o3
section
variable {w : World} {Q : Nat → Prop} {A : Option Addr} {c : Nat} {no : Bool} {z l D : Nat} {lo hi : Int} {da : List (Int × Int)} {nm : List B8}
variable {pm : Nat} {pl ph pu : Int} {pn : List B8}
set_option maxRecDepth 100000 in
set_option maxHeartbeats 2000000 in
theorem arst1 (hS : Spn w Q A c da) (hab : abd ⟨no, z, l, D, lo, hi, da, nm⟩) (_ : pok ⟨1, pm, pl, ph, pn, pu⟩) (hpb : pbd ⟨1, pm, pl, ph, pn, pu⟩) :
    Calls Tryd.prog 30 #[.agg (arow no z l D lo hi (.slice A da.length c) nm), .agg (prow 1 pm pl ph pn pu)] w fun e w' => RsA w Q (rst ⟨no, z, l, D, lo, hi, da, nm⟩ ⟨1, pm, pl, ph, pn, pu⟩) e w' := by
  have hand := bits_and_u64_nat z pm hab.1 hpb.1
  obtain ⟨E, hE⟩ : ∃ E, E = z &&& pm := ⟨_, rfl⟩
  rw [← hE] at hand
  have HM : Hid (rst ⟨no, z, l, D, lo, hi, da, nm⟩ ⟨1, pm, pl, ph, pn, pu⟩ = ⟨no, E, l, D, lo, hi, da, nm⟩) := Lib.hid (by unfold rst; rw [if_pos rfl, hE])
  have HAB : Hid (abd ⟨no, E, l, D, lo, hi, da, nm⟩) := Lib.hid ⟨by rw [hE]; exact Nat.lt_of_le_of_lt Nat.and_le_left hab.1, hab.2⟩
  clear hE
  have HS := Lib.hid (hS.mono (Q' := fun g => Q g ∧ g < w.heap.size) fun g hg hq => ⟨hq, hg⟩)
  clear hS hab hpb
  obtain ⟨n, hn⟩ : ∃ n, n = da.length := ⟨_, rfl⟩
  rw [← hn]
  have HN := Lib.hid hn
  clear hn
  go_enter Tryd.func30, Tryd.ntmps30
  go_wp2_with fail
  refine bodyPost_ret (results_aut (g := w.heap.size + 1 + 1) Tryd.results30 _ rfl rfl (Whole.at_ _ _ _ _ (by simp))) rfl ?_
  rw [HM.out]
  exact RsA.mk (m := ⟨no, E, l, D, lo, hi, da, nm⟩) HN.out (lowq HS.out (b3_below w _ _ _)) (b3_below w _ _ _) HAB.out
set_option maxRecDepth 100000 in
set_option maxHeartbeats 2000000 in
theorem arst2 (hS : Spn w Q A c da) (hab : abd ⟨no, z, l, D, lo, hi, da, nm⟩) (_ : pok ⟨2, pm, pl, ph, pn, pu⟩) (hpb : pbd ⟨2, pm, pl, ph, pn, pu⟩) :
    Calls Tryd.prog 30 #[.agg (arow no z l D lo hi (.slice A da.length c) nm), .agg (prow 2 pm pl ph pn pu)] w fun e w' => RsA w Q (rst ⟨no, z, l, D, lo, hi, da, nm⟩ ⟨2, pm, pl, ph, pn, pu⟩) e w' := by
  have hand := bits_and_u64_nat l pm hab.2.1 hpb.1
  obtain ⟨E, hE⟩ : ∃ E, E = l &&& pm := ⟨_, rfl⟩
  rw [← hE] at hand
  have HM : Hid (rst ⟨no, z, l, D, lo, hi, da, nm⟩ ⟨2, pm, pl, ph, pn, pu⟩ = ⟨no, z, E, D, lo, hi, da, nm⟩) := Lib.hid (by unfold rst; rw [if_neg (by simp), if_pos rfl, hE])
  have HAB : Hid (abd ⟨no, z, E, D, lo, hi, da, nm⟩) := Lib.hid ⟨hab.1, by rw [hE]; exact Nat.lt_of_le_of_lt Nat.and_le_left hab.2.1, hab.2.2⟩
  clear hE
  have HS := Lib.hid (hS.mono (Q' := fun g => Q g ∧ g < w.heap.size) fun g hg hq => ⟨hq, hg⟩)
  clear hS hab hpb
  obtain ⟨n, hn⟩ : ∃ n, n = da.length := ⟨_, rfl⟩
  rw [← hn]
  have HN := Lib.hid hn
  clear hn
  go_enter Tryd.func30, Tryd.ntmps30
  go_wp2_with fail
  refine bodyPost_ret (results_aut (g := w.heap.size + 1 + 1) Tryd.results30 _ rfl rfl (Whole.at_ _ _ _ _ (by simp))) rfl ?_
  rw [HM.out]
  exact RsA.mk (m := ⟨no, z, E, D, lo, hi, da, nm⟩) HN.out (lowq HS.out (b3_below w _ _ _)) (b3_below w _ _ _) HAB.out
set_option maxRecDepth 100000 in
set_option maxHeartbeats 2000000 in
theorem arst3 (hS : Spn w Q A c da) (hab : abd ⟨no, z, l, D, lo, hi, da, nm⟩) (_ : pok ⟨3, pm, pl, ph, pn, pu⟩) (hpb : pbd ⟨3, pm, pl, ph, pn, pu⟩) :
    Calls Tryd.prog 30 #[.agg (arow no z l D lo hi (.slice A da.length c) nm), .agg (prow 3 pm pl ph pn pu)] w fun e w' => RsA w Q (rst ⟨no, z, l, D, lo, hi, da, nm⟩ ⟨3, pm, pl, ph, pn, pu⟩) e w' := by
  have hand := bits_and_u64_nat D pm hab.2.2.1 hpb.1
  obtain ⟨E, hE⟩ : ∃ E, E = D &&& pm := ⟨_, rfl⟩
  rw [← hE] at hand
  have HM : Hid (rst ⟨no, z, l, D, lo, hi, da, nm⟩ ⟨3, pm, pl, ph, pn, pu⟩ = ⟨no, z, l, E, lo, hi, da, nm⟩) := Lib.hid (by unfold rst; rw [if_neg (by simp), if_neg (by simp), if_pos rfl, hE])
  have HAB : Hid (abd ⟨no, z, l, E, lo, hi, da, nm⟩) := Lib.hid ⟨hab.1, hab.2.1, by rw [hE]; exact Nat.lt_of_le_of_lt Nat.and_le_left hab.2.2.1, hab.2.2.2⟩
  clear hE
  have HS := Lib.hid (hS.mono (Q' := fun g => Q g ∧ g < w.heap.size) fun g hg hq => ⟨hq, hg⟩)
  clear hS hab hpb
  obtain ⟨n, hn⟩ : ∃ n, n = da.length := ⟨_, rfl⟩
  rw [← hn]
  have HN := Lib.hid hn
  clear hn
  go_enter Tryd.func30, Tryd.ntmps30
  go_wp2_with fail
  refine bodyPost_ret (results_aut (g := w.heap.size + 1 + 1) Tryd.results30 _ rfl rfl (Whole.at_ _ _ _ _ (by simp))) rfl ?_
  rw [HM.out]
  exact RsA.mk (m := ⟨no, z, l, E, lo, hi, da, nm⟩) HN.out (lowq HS.out (b3_below w _ _ _)) (b3_below w _ _ _) HAB.out
set_option maxRecDepth 100000 in
set_option maxHeartbeats 2000000 in
theorem arst4 (hS : Spn w Q A c da) (hab : abd ⟨no, z, l, D, lo, hi, da, nm⟩) (hp : pok ⟨4, pm, pl, ph, pn, pu⟩) (_ : pbd ⟨4, pm, pl, ph, pn, pu⟩) :
    Calls Tryd.prog 30 #[.agg (arow no z l D lo hi (.slice A da.length c) nm), .agg (prow 4 pm pl ph pn pu)] w fun e w' => RsA w Q (rst ⟨no, z, l, D, lo, hi, da, nm⟩ ⟨4, pm, pl, ph, pn, pu⟩) e w' := by
  have HM : Hid (rst ⟨no, z, l, D, lo, hi, da, nm⟩ ⟨4, pm, pl, ph, pn, pu⟩ = ⟨no, z, l, D, max lo pl, min hi ph, da, nm⟩) := Lib.hid (by unfold rst; rw [if_neg (by simp), if_neg (by simp), if_neg (by simp), if_pos rfl])
  have HAB : Hid (abd ⟨no, z, l, D, max lo pl, min hi ph, da, nm⟩) := Lib.hid (by
    have hb : 0 ≤ pl ∧ pl ≤ ph ∧ ph ≤ 67108864 := by unfold pok at hp; simp at hp; omega
    obtain ⟨a1, a2, a3, ⟨a4, a5⟩, ⟨a6, a7⟩, a8⟩ := hab
    simp only at a4 a5 a6 a7
    exact ⟨a1, a2, a3, ⟨by simp only; omega, by simp only; omega⟩, ⟨by simp only; omega, by simp only; omega⟩, a8⟩)
  have HS := Lib.hid (hS.mono (Q' := fun g => Q g ∧ g < w.heap.size) fun g hg hq => ⟨hq, hg⟩)
  clear hS hab hp
  obtain ⟨n, hn⟩ : ∃ n, n = da.length := ⟨_, rfl⟩
  rw [← hn]
  have HN := Lib.hid hn
  clear hn
  go_enter Tryd.func30, Tryd.ntmps30
  go_upto_region 9 with fail
  go_region
  go_wp2_with fail
  all_goals
    refine bodyPost_ret (results_aut (g := w.heap.size + 1 + 1) Tryd.results30 _ rfl rfl (Whole.at_ _ _ _ _ (by simp))) rfl ?_
    rw [HM.out]
    refine RsA.mk4 HN.out ?_ ?_ (lowq HS.out (b3_below w _ _ _)) (b3_below w _ _ _) HAB.out
    · omega
    · omega
set_option maxRecDepth 100000 in
set_option maxHeartbeats 2000000 in
theorem arst7 (hS : Spn w Q A c da) (hab : abd ⟨no, z, l, D, lo, hi, da, nm⟩) (_ : pok ⟨7, pm, pl, ph, pn, pu⟩) (_ : pbd ⟨7, pm, pl, ph, pn, pu⟩) :
    Calls Tryd.prog 30 #[.agg (arow no z l D lo hi (.slice A da.length c) nm), .agg (prow 7 pm pl ph pn pu)] w fun e w' => RsA w Q (rst ⟨no, z, l, D, lo, hi, da, nm⟩ ⟨7, pm, pl, ph, pn, pu⟩) e w' := by
  have HM : Hid (rst ⟨no, z, l, D, lo, hi, da, nm⟩ ⟨7, pm, pl, ph, pn, pu⟩ = ⟨no, z, l, D, lo, hi, da, nm⟩) := Lib.hid (by unfold rst; rw [if_neg (by simp), if_neg (by simp), if_neg (by simp), if_neg (by simp), if_neg (by simp), if_neg (by simp)])
  have HAB : Hid (abd ⟨no, z, l, D, lo, hi, da, nm⟩) := Lib.hid hab
  have HS := Lib.hid (hS.mono (Q' := fun g => Q g ∧ g < w.heap.size) fun g hg hq => ⟨hq, hg⟩)
  clear hS hab
  obtain ⟨n, hn⟩ : ∃ n, n = da.length := ⟨_, rfl⟩
  rw [← hn]
  have HN := Lib.hid hn
  clear hn
  go_enter Tryd.func30, Tryd.ntmps30
  go_wp2_with fail
  refine bodyPost_ret (results_aut (g := w.heap.size + 1 + 1) Tryd.results30 _ rfl rfl (Whole.at_ _ _ _ _ (by simp))) rfl ?_
  rw [HM.out]
  exact RsA.mk (m := ⟨no, z, l, D, lo, hi, da, nm⟩) HN.out (lowq HS.out (b3_below w _ _ _)) (b3_below w _ _ _) HAB.out
set_option maxRecDepth 100000 in
set_option maxHeartbeats 2000000 in
theorem arst5 (hS : Spn w Q A c da) (hab : abd ⟨no, z, l, D, lo, hi, da, nm⟩) (hp : pok ⟨5, pm, pl, ph, pn, pu⟩) (_ : pbd ⟨5, pm, pl, ph, pn, pu⟩) (hlen : da.length ≤ 1440) :
    Calls Tryd.prog 30 #[.agg (arow no z l D lo hi (.slice A da.length c) nm), .agg (prow 5 pm pl ph pn pu)] w fun e w' => RsA w Q (rst ⟨no, z, l, D, lo, hi, da, nm⟩ ⟨5, pm, pl, ph, pn, pu⟩) e w' := by
  have HM : Hid (rst ⟨no, z, l, D, lo, hi, da, nm⟩ ⟨5, pm, pl, ph, pn, pu⟩ = ⟨no, z, l, D, lo, hi, cmn da (spo pl ph), nm⟩) := Lib.hid (by unfold rst; rw [if_neg (by simp), if_neg (by simp), if_neg (by simp), if_neg (by simp), if_pos rfl])
  have HAB : Hid (abd ⟨no, z, l, D, lo, hi, cmn da (spo pl ph), nm⟩) := Lib.hid hab
  have hb : i64ok pl ∧ i64ok ph := by unfold pok at hp; simp at hp; exact ⟨⟨by omega, by omega⟩, ⟨by omega, by omega⟩⟩
  have hsp := fun W => aspans 5 pm pl ph pn pu hb W
  have hsl : (spo pl ph).length ≤ 2 := by
    unfold spo
    split <;> simp
  have hcm : ∀ W A2 c2 n2, Below w.heap.size w W → Spn W (fun _ => True) A2 c2 (spo pl ph) → n2 = (spo pl ph).length → Calls Tryd.prog 48 #[.slice A da.length c, .slice A2 n2 c2] W fun e w' => (∃ A c n, e = .returned (.slice A n c) ∧ n = (cmn da (spo pl ph)).length ∧ Spn w' (fun g => W.heap.size ≤ g) A c (cmn da (spo pl ph))) ∧ Below W.heap.size W w' := fun W A2 c2 n2 hW h2 hn2 =>
    acommon ((hS.mono (Q' := fun g => g < w.heap.size) fun g hg _ => hg).low hW) h2 (by omega) rfl hn2
  clear hsl hb hlen
  have HS := Lib.hid (hS.mono (Q' := fun g => Q g ∧ g < w.heap.size) fun g hg hq => ⟨hq, hg⟩)
  clear hS hab hp
  obtain ⟨n, hn⟩ : ∃ n, n = da.length := ⟨_, rfl⟩
  rw [← hn]
  have HN := Lib.hid hn
  clear hn
  rw [← HN.out] at hcm
  obtain ⟨w1, hw1⟩ : ∃ w1, w1 = ((w.alloc (.cells (arow no z l D lo hi (.slice A n c) nm) 25)).alloc (.cells (prow 5 pm pl ph pn pu) 41)).alloc (.cells #[.bool false, .int .u64 0, .int .u64 0, .int .u64 0, .int .i64 0, .int .i64 0, .slice none 0 0, .string { data := #[] }] 25) := ⟨_, rfl⟩
  have hr : ARow w1 w.heap.size no z l D lo hi (.slice A n c) nm := by rw [hw1]; exact ((Whole.here _ _ _).alloc _).alloc _
  have hpr : Whole w1 (w.heap.size + 1) 41 (prow 5 pm pl ph pn pu) := by rw [hw1]; exact (Whole.at_ _ _ _ _ (by simp)).alloc _
  have hzr : Whole w1 (w.heap.size + 1 + 1) 25 #[.bool false, .int .u64 0, .int .u64 0, .int .u64 0, .int .i64 0, .int .i64 0, .slice none 0 0, .string { data := #[] }] := by rw [hw1]; exact Whole.at_ _ _ _ _ (by simp)
  have hb1 : Below w.heap.size w w1 := by rw [hw1]; exact b3_below w _ _ _
  have hs1 : w.heap.size + 3 ≤ w1.heap.size := by rw [hw1]; simp
  go_enter Tryd.func30, Tryd.ntmps30
  go_upto_region 11 with fail
  rw [← hw1]
  clear hw1
  obtain ⟨p0, p1, p2, p3, p4, p5⟩ := PRow.cells hpr
  obtain ⟨-, -, -, -, -, -, a6, -⟩ := hr.cells
  have HR : Hid (ARow w1.drew w.heap.size no z l D lo hi (.slice A n c) nm) := Lib.hid hr
  have HZR : Hid (Whole w1.drew (w.heap.size + 1 + 1) 25 #[.bool false, .int .u64 0, .int .u64 0, .int .u64 0, .int .i64 0, .int .i64 0, .slice none 0 0, .string { data := #[] }]) := Lib.hid hzr
  have HB1 : Hid (Below w.heap.size w w1.drew) := Lib.hid hb1.drew
  have HSZ : Hid (w.heap.size + 3 ≤ w1.drew.heap.size) := Lib.hid hs1
  clear hr hpr hzr hb1 hs1
  go_region_with (first
    | (go_at_call 49; refine (hsp _).mono ?_; rintro e w2 ⟨⟨A2, c2, n2, rfl, hn2, hS2⟩, hb2⟩; have hr2 : ARow w2 w.heap.size no z l D lo hi (.slice A n c) nm := Whole.below HR.out hb2 (by have := HSZ.out; omega); have a62 := hr2.cells.2.2.2.2.2.2.1; have HB2 : Hid (Below w.heap.size w w2) := Lib.hid (HB1.out.trans (hb2.mono (by have := HSZ.out; omega))); have HZ2 : Hid (Whole w2 (w.heap.size + 1 + 1) 25 #[.bool false, .int .u64 0, .int .u64 0, .int .u64 0, .int .i64 0, .int .i64 0, .slice none 0 0, .string { data := #[] }]) := Lib.hid (Whole.below HZR.out hb2 (by have := HSZ.out; omega)); have HS2 := Lib.hid hS2; have HN2 := Lib.hid hn2; have hs2 : w.heap.size + 3 ≤ w2.heap.size := Nat.le_trans HSZ.out hb2.size; have HR2 := Lib.hid hr2; clear hb2 hS2 hn2 hr2)
    | (go_at_call 48; refine (hcm _ _ _ _ HB2.out (HS2.out.mono fun _ _ _ => trivial) HN2.out).mono ?_; rintro e w3 ⟨⟨A3, c3, n3, rfl, hn3, hS3⟩, hb3⟩; have hr3 : ARow w3 w.heap.size no z l D lo hi (.slice A n c) nm := Whole.below HR2.out hb3 (by omega); have a63 := hr3.cells.2.2.2.2.2.2.1; have f63 := Whole.frozen hr3 6; have HB3 : Hid (Below w.heap.size w w3) := Lib.hid (HB2.out.trans (hb3.mono (by omega))); have HZ3 : Hid (Whole w3 (w.heap.size + 1 + 1) 25 #[.bool false, .int .u64 0, .int .u64 0, .int .u64 0, .int .i64 0, .int .i64 0, .slice none 0 0, .string { data := #[] }]) := Lib.hid (Whole.below HZ2.out hb3 (by omega)); have HS3 := Lib.hid (hS3.mono (Q' := fun g => w.heap.size + 3 ≤ g) fun g _ hg => Nat.le_trans hs2 hg); have HN3 := Lib.hid hn3; have HR3 := Lib.hid hr3; clear hb3 hS3 hn3 hr3))
  all_goals
    obtain ⟨w4, hw4⟩ : ∃ w4, w4 = w3.setCell ⟨w.heap.size, 6, none⟩ (.slice A3 n3 c3) := ⟨_, rfl⟩
    have hr4 : ARow w4 w.heap.size no z l D lo hi (.slice A3 n3 c3) nm := by rw [hw4]; exact ARow.set6 HR3.out _
    have hz4 : Whole w4 (w.heap.size + 1 + 1) 25 #[.bool false, .int .u64 0, .int .u64 0, .int .u64 0, .int .i64 0, .int .i64 0, .slice none 0 0, .string { data := #[] }] := by rw [hw4]; exact Whole.far HZ3.out (a := ⟨w.heap.size, 6, none⟩) (by show w.heap.size + 1 + 1 ≠ w.heap.size; omega) _
    have hb4 : Below w.heap.size w w4 := by rw [hw4]; exact HB3.out.setCell (p := ⟨w.heap.size, 6, none⟩) (Nat.le_refl _) _
    have hS4 : Spn w4 (fun g => w.heap.size + 3 ≤ g) A3 c3 (cmn da (spo pl ph)) := by
      rw [hw4]
      exact HS3.out.keep (by simp [World.setCell]) fun g _ hg => heap_setCell_other w3 ⟨w.heap.size, 6, none⟩ g _ (by have : w.heap.size + 3 ≤ g := hg; show g ≠ w.heap.size; omega)
    rw [← hw4]
    have HF : Hid (RsA w Q ⟨no, z, l, D, lo, hi, cmn da (spo pl ph), nm⟩ (.returned (.agg (arow no z l D lo hi (.slice A3 n3 c3) nm))) (w4.setRow (w.heap.size + 1 + 1) (arow no z l D lo hi (.slice A3 n3 c3) nm))) := Lib.hid (RsA.mk (m := ⟨no, z, l, D, lo, hi, cmn da (spo pl ph), nm⟩) HN3.out
      ((hS4.keep (w' := w4.setRow (w.heap.size + 1 + 1) (arow no z l D lo hi (.slice A3 n3 c3) nm)) (by simp [World.setRow]) fun g _ hg => setRow_other w4 (w.heap.size + 1 + 1) g _ (by have : w.heap.size + 3 ≤ g := hg; omega)).mono fun g _ hg => .inr (by have : w.heap.size + 3 ≤ g := hg; omega)) (below_setRow (g := w.heap.size + 1 + 1) hb4 (by omega) _) HAB.out)
    have HW := Lib.hid (hz4.setRow (arow no z l D lo hi (.slice A3 n3 c3) nm))
    clear hw4 hb4 hS4 hsp hcm a6 a62 a63 f63 p0 p1 p2 p3 p4 p5
    go_wp2_with (first
      | (with_reducible refine wpList_load_aut rfl _ rfl rfl hr4 ?_)
      | (with_reducible refine wpList_store_aut rfl _ _ rfl (g := w.heap.size + 1 + 1) rfl rfl hz4 (by with_unfolding_all rfl) (by with_unfolding_all rfl) (by with_unfolding_all rfl) ?_))
    refine bodyPost_ret (results_aut (g := w.heap.size + 1 + 1) Tryd.results30 _ rfl rfl HW.out) rfl ?_
    rw [HM.out]
    exact HF.out
set_option maxRecDepth 100000 in
set_option maxHeartbeats 2000000 in
theorem arst6 (hS : Spn w Q A c da) (hab : abd ⟨no, z, l, D, lo, hi, da, nm⟩) (_ : pok ⟨6, pm, pl, ph, pn, pu⟩) (hpb : pbd ⟨6, pm, pl, ph, pn, pu⟩) :
    Calls Tryd.prog 30 #[.agg (arow no z l D lo hi (.slice A da.length c) nm), .agg (prow 6 pm pl ph pn pu)] w fun e w' => RsA w Q (rst ⟨no, z, l, D, lo, hi, da, nm⟩ ⟨6, pm, pl, ph, pn, pu⟩) e w' := by
  obtain ⟨N1, hN1⟩ : ∃ b, b = (no || (!decide (nm = []) && !decide (nm = pn))) := ⟨_, rfl⟩
  have HM : Hid (rst ⟨no, z, l, D, lo, hi, da, nm⟩ ⟨6, pm, pl, ph, pn, pu⟩ = ⟨N1, z, l, D, lo, hi, da, pn⟩) := Lib.hid (by unfold rst; rw [if_neg (by simp), if_neg (by simp), if_neg (by simp), if_neg (by simp), if_neg (by simp), if_pos rfl, hN1])
  have HAB : Hid (abd ⟨N1, z, l, D, lo, hi, da, pn⟩) := Lib.hid ⟨hab.1, hab.2.1, hab.2.2.1, hab.2.2.2.1, hab.2.2.2.2.1, hpb.2⟩
  have hie : (sof nm).toList.isEmpty = decide (nm = []) := by
    rw [sof_toList]
    cases nm <;> simp
  have hse := sof_beq nm pn
  have HN1 := Lib.hid hN1
  clear hN1
  have HS := Lib.hid (hS.mono (Q' := fun g => Q g ∧ g < w.heap.size) fun g hg hq => ⟨hq, hg⟩)
  clear hS hab hpb
  obtain ⟨n, hn⟩ : ∃ n, n = da.length := ⟨_, rfl⟩
  rw [← hn]
  have HN := Lib.hid hn
  clear hn
  have HF : Hid (∀ o1 o2, RsA w Q ⟨N1, z, l, D, lo, hi, da, pn⟩ (.returned (.agg (arow N1 z l D lo hi (.slice A n c) pn))) (((w.alloc o1).alloc o2).alloc (.cells (arow N1 z l D lo hi (.slice A n c) pn) 25))) := Lib.hid fun o1 o2 => RsA.mk (m := ⟨N1, z, l, D, lo, hi, da, pn⟩) HN.out (lowq HS.out (b3_below w _ _ _)) (b3_below w _ _ _) HAB.out
  by_cases h1 : no = true
  case pos =>
    subst h1
    obtain rfl : N1 = true := by rw [HN1.out]; rfl
    clear hie hse HN1
    go_enter Tryd.func30, Tryd.ntmps30
    go_wp2_with fail
    refine bodyPost_ret (results_aut (g := w.heap.size + 1 + 1) Tryd.results30 _ rfl rfl (Whole.at_ _ _ _ _ (by simp))) rfl ?_
    rw [HM.out]
    exact HF.out _ _
  case neg =>
    obtain rfl : no = false := by cases no <;> simp_all
    clear h1
    by_cases h2 : nm = []
    · rw [decide_eq_true h2] at hie
      obtain rfl : N1 = false := by rw [HN1.out, decide_eq_true h2]; rfl
      clear hse HN1 h2
      go_enter Tryd.func30, Tryd.ntmps30
      go_wp2_with fail
      refine bodyPost_ret (results_aut (g := w.heap.size + 1 + 1) Tryd.results30 _ rfl rfl (Whole.at_ _ _ _ _ (by simp))) rfl ?_
      rw [HM.out]
      exact HF.out _ _
    · rw [decide_eq_false h2] at hie
      have HN2 := Lib.hid (HN1.out.trans (by rw [decide_eq_false h2]; rfl : _ = !decide (nm = pn)))
      obtain ⟨E, hE⟩ : ∃ E, E = decide (nm = pn) := ⟨_, rfl⟩
      rw [← hE] at hse HN2
      clear HN1 h2 hE
      cases E
      · obtain rfl : N1 = true := HN2.out
        clear HN2
        go_enter Tryd.func30, Tryd.ntmps30
        go_wp2_with fail
        refine bodyPost_ret (results_aut (g := w.heap.size + 1 + 1) Tryd.results30 _ rfl rfl (Whole.at_ _ _ _ _ (by simp))) rfl ?_
        rw [HM.out]
        exact HF.out _ _
      · obtain rfl : N1 = false := HN2.out
        clear HN2
        go_enter Tryd.func30, Tryd.ntmps30
        go_wp2_with fail
        refine bodyPost_ret (results_aut (g := w.heap.size + 1 + 1) Tryd.results30 _ rfl rfl (Whole.at_ _ _ _ _ (by simp))) rfl ?_
        rw [HM.out]
        exact HF.out _ _
end
theorem arestrict {w : World} {Q : Nat → Prop} {x : Value} {a : Aut} (hx : Av w Q x a) (hl : a.daily.length ≤ 1440) {p : Prd} (hp : pok p) (hpb : pbd p) :
    Calls Tryd.prog 30 #[x, pv p] w fun e w' => RsA w Q (rst a p) e w' := by
  obtain ⟨A, c, rfl, hS, hab⟩ := hx
  obtain ⟨no, z, l, D, lo, hi, da, nm⟩ := a
  obtain ⟨pk, pm, pl, ph, pn, pu⟩ := p
  rw [pv_row]
  simp only
  have hk : pk = 1 ∨ pk = 2 ∨ pk = 3 ∨ pk = 4 ∨ pk = 5 ∨ pk = 6 ∨ pk = 7 := by unfold pok at hp; simp only at hp; omega
  rcases hk with rfl | rfl | rfl | rfl | rfl | rfl | rfl
  · exact arst1 hS hab hp hpb
  · exact arst2 hS hab hp hpb
  · exact arst3 hS hab hp hpb
  · exact arst4 hS hab hp hpb
  · exact arst5 hS hab hp hpb hl
  · exact arst6 hS hab hp hpb
  · exact arst7 hS hab hp hpb
end Go.Proofs.YtgbcncfhmnhljaaDoor
