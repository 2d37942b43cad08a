/-
  The law of HmacPadding: true, for all arguments.
-/
import Derived.Test.YtbbpdcnmoabooaaDoorHmacZeros
namespace Go.Proofs.YtbbpdcnmoabooaaDoor
namespace Sh
theorem hmac_pad (p b : List B8) (k : Nat) (h : p.length + k ≤ 64) : hmac (p ++ List.replicate k 0) b = hmac p b := by
  have e1 : kb p = p := by unfold kb; rw [if_neg (by omega)]
  have e2 : kb (p ++ List.replicate k 0) = p ++ List.replicate k 0 := by unfold kb; rw [if_neg (by simp; omega)]
  have e : ext (p ++ List.replicate k 0) = ext p := by
    unfold ext
    rw [e1, e2, List.append_assoc, List.replicate_append_replicate, List.length_append, List.length_replicate]
    congr 2
    omega
  unfold hmac
  rw [e]
theorem hmac_long (l b : List B8) (h : 64 < l.length) : hmac l b = hmac (sha l) b := by
  have e1 : kb l = sha l := by unfold kb; rw [if_pos h]
  have e2 : kb (sha l) = sha l := by unfold kb; rw [if_neg (by rw [sha_length]; omega)]
  have e : ext l = ext (sha l) := by
    unfold ext
    rw [e1, e2]
  unfold hmac
  rw [e]
end Sh
open Go Go.RowKit Sh Leaf

theorem step_append_zeros {w : World} {ops : Array Oper} {o : Oper} {a : Act} {K : Act → World → Prop} {R : Exit → Act → World → Prop} {E : Prop} (hw : Region.wanted o (yielded ops a.tmps) = true) (s x : Operand)
    (ho : o.op = .call { callee := .builtin .append, args := #[s, x], argTypes := #[22, 3] })
    (base : Nat) (v : Value) (xs : List B8) (hs : a.eval s = v) (hown : w.ownsRow base 5 1 v xs.length (xs.map byt))
    (k : Nat) (hx : a.eval x = .int .i64 (k : Int)) (hk : k ≤ 1000) (hxl : xs.length ≤ 1000) (hbase : base ≤ w.heap.size)
    (h : ∀ v' w', w'.ownsRow base 5 1 v' (xs ++ List.replicate k (0 : B8)).length ((xs ++ List.replicate k (0 : B8)).map byt) → Below base w w' → K (a.put o.dst v') w') :
    if Region.wanted o (yielded ops a.tmps) = true then Oper.wp Tryd.prog o a w K R else E := by
  rw [if_pos hw]
  obtain ⟨v', w', hrun, h1, h2⟩ := run_append_zeros o.type base v xs hown k hk hxl hbase
  unfold Oper.wp
  simp [execOp, ho, resolve, invoke, builtin, hs, hx, hrun, Result.andThen]
  exact h v' w' h1 h2

set_option maxRecDepth 20000 in
set_option maxHeartbeats 2000000 in
theorem padding_law (A A' : Option Addr) (l l' : List B8) (c c' : Nat) (Q Q' : Nat → Prop) (z n : Nat) (hz : z < 256) (hn : n < 256) (w : World) (hb : Bytes w Q (.slice A l.length c) l) (hb' : Bytes w Q' (.slice A' l'.length c') l') (hT : Tables w) :
    Calls Tryd.prog 9 #[.slice A l.length c, .slice A' l'.length c', .int .u8 z, .int .u8 n] w fun e w' => e = .returned (.bool true) ∧ Below w.heap.size w w' := by
  obtain ⟨A0, c0, e0, h1, h2, h3, h4⟩ := id hb
  cases e0
  obtain ⟨A0, c0, e0, h1', h2', h3', h4'⟩ := id hb'
  cases e0
  have hp := hb.cut 40
  have hp' := hb'.cut 200
  have E1 := Lib.hid (min_take l 40)
  have E2 := Lib.hid (min_take l' 200)
  clear hb hb' h4 h4'
  obtain ⟨m, hm⟩ : ∃ m, m = 65 + n % 100 := ⟨_, rfl⟩
  have hmk := make_bytes (65 + (n : Int) % 100) m (by omega) (by omega)
  have hm1 : 65 ≤ m ∧ m ≤ 164 := by omega
  have HMK := Lib.hid hmk
  clear hmk hm
  go_enter Tryd.func9, Tryd.ntmps9
  go_wp2
  go_quiet (fail)
  rw [show (40 : Int) = ((40 : Nat) : Int) by rfl, show (200 : Int) = ((200 : Nat) : Int) by rfl, E1.out, E2.out]
  simp only [Int.toNat_natCast]
  have hpl : (l.take 40).length ≤ 40 := by simp; omega
  have hpl' : (l'.take 200).length ≤ 200 := by simp; omega
  clear E1 E2
  generalize l.take 40 = p at hp hpl ⊢
  generalize l'.take 200 = p' at hp' hpl' ⊢
  have hp0 := hp.drewN nq
  have hp0' := hp'.drewN nq
  have hT0 : Tables (w.drewN nq) := hT
  have hb0 : Below w.heap.size w (w.drewN nq) := below_drewN (Below.refl _ _) nq
  generalize w.drewN nq = W0 at hp0 hp0' hT0 hb0 ⊢
  clear hp hp' hT
  obtain ⟨k, hk⟩ : ∃ k, k = z % (65 - p.length) := ⟨_, rfl⟩
  have hkl : k < 65 - p.length := by rw [hk]; exact Nat.mod_lt _ (by omega)
  have hki : (z : Int) % (65 - (p.length : Int)) = (k : Int) := by
    have e : ((65 - p.length : Nat) : Int) = 65 - (p.length : Int) := by omega
    rw [hk, Int.natCast_emod, e]
  have hkt : (z : Int).tmod (65 - (p.length : Int)) = (k : Int) := by rw [Int.tmod_eq_emod_of_nonneg (by omega)]; exact hki
  clear hk
  have hw1 : IntKind.i64.wrap (z : Int) = (z : Int) := by rw [IntKind.wrap_i64]; omega
  have hw2 : IntKind.i64.wrap (65 - (p.length : Int)) = 65 - (p.length : Int) := by rw [IntKind.wrap_i64]; omega
  have hkz : ¬ ((65 : Int) - (p.length : Int) = 0) := by omega
  go_wp2
  go_region_held3 (fun _ => True) (trivial)
    (first
      | (refine step_append_zeros (by rfl) _ _ (by rfl) W0.heap.size v1 p (by rfl) hown1 k (by rfl) (by omega) (by omega) hs1 ?_; intro v2 w2 hown2 hb2)
      | (refine step_append_bytes (by rfl) _ _ (by rfl) W0.heap.size (.slice (some ⟨W0.heap.size, 0, none⟩) 0 0) [] (by rfl) (own_lit_at W0.drew W0.heap.size W0.heap.size [] rfl (Nat.le_refl _) (by simp)) Q (.slice A p.length c) p (by rfl) (hp0.drew.alloc _) (by simp; omega) (by simp) ?_; intro v1 w1 hown hb1; have hown1 : w1.ownsRow W0.heap.size 5 1 v1 p.length (p.map byt) := hown; have hs1 : W0.heap.size ≤ w1.heap.size := (by have := hb1.size; simp at this; omega)))
  have hq2 : Below W0.heap.size W0 w2 := ((((Below.refl _ _).drew).alloc (Nat.le_refl _) _).trans hb1).trans hb2
  have hby2 := Bytes.of_own hown2
  have hp2 := hp0.below hq2 (Nat.le_refl _)
  have hp2' := hp0'.below hq2 (Nat.le_refl _)
  have hT2 := hT0.below (Nat.le_refl _) hq2
  have hw2 := hb0.trans (hq2.mono hb0.size)
  have hpad := hmac_pad p p' k (by omega)
  have hPl : (p ++ List.replicate k (0 : B8)).length ≤ 64 := by simp; omega
  obtain ⟨P, hP⟩ : ∃ P, P = p ++ List.replicate k (0 : B8) := ⟨_, rfl⟩
  rw [← hP] at hby2 hpad hPl
  clear hP hq2 hown2 hb2 hown1 hb1 hs1 hp0 hp0' hT0 hb0 hw1 hkt hki hkl
  obtain ⟨L, hL⟩ : ∃ L : List B8, L = List.replicate m 0 := ⟨_, rfl⟩
  have hLl : L.length = m := by rw [hL]; simp
  have hLr : (brow m fun _ => 0) = (L.map byt).toArray := by
    rw [← brow_list, hLl]
    refine brow_congr fun j hj => ?_
    rw [hL]
    simp [List.getD_eq_getElem?_getD, hj]
  have hlong := hmac_long L p' (by omega)
  have hk0 : Whole (w2.alloc (.cells (brow m fun _ => 0) 5)) w2.heap.size 5 (L.map byt).toArray := by
    rw [hLr]; exact Whole.here _ _ _
  have hbl : Bytes (w2.alloc (.cells (brow m fun _ => 0) 5)) (fun b => b = w2.heap.size) (.slice (some ⟨w2.heap.size, 0, none⟩) m m) L := by
    have := hk0.bytes (by omega)
    rwa [hLl] at this
  have hq3 : Below w2.heap.size w2 (w2.alloc (.cells (brow m fun _ => 0) 5)) := (Below.refl _ _).alloc (Nat.le_refl _) _
  have hby3 := hby2.below hq3 (Nat.le_refl _)
  have hp3 := hp2.below hq3 (Nat.le_refl _)
  have hp3' := hp2'.below hq3 (Nat.le_refl _)
  have hT3 := hT2.below (Nat.le_refl _) hq3
  have hw3 := hw2.trans (hq3.mono hw2.size)
  have hmk := HMK.out
  clear hk0 hq3 hby2 hp2 hp2' hT2 hw2 hL hLr
  go_wp2_with fail
  refine (of_ _ L _ _ hbl hT3 (by omega)).mono ?_
  rintro e w4 ⟨rfl, hb4⟩
  have hbl4 := hbl.below hb4 (Nat.le_refl _)
  have hby4 := hby3.below hb4 (Nat.le_refl _)
  have hp4 := hp3.below hb4 (Nat.le_refl _)
  have hp4' := hp3'.below hb4 (Nat.le_refl _)
  have hT4 := hT3.below (Nat.le_refl _) hb4
  have hw4 := hw3.trans (hb4.mono hw3.size)
  clear hbl hby3 hp3 hp3' hT3 hw3 hb4 hmk
  have hDl : (sha L).length = 32 := sha_length _
  obtain ⟨D, hD⟩ : ∃ D, D = sha L := ⟨_, rfl⟩
  rw [← hD] at hlong hDl ⊢
  clear hD
  have HDl := Lib.hid hDl
  clear hDl
  have hZ : Hid ((Tryd.prog.info? 26).map (·.size) = some 32) := Lib.hid (by kernel_rfl)
  have m0 : ∀ cs, Whole (w4.alloc (.cells cs 26)) w4.heap.size 26 cs := fun cs => Whole.here _ _ _
  have m1 : ∀ cs, Whole ((w4.alloc (.cells cs 26)).setRow w4.heap.size (D.map byt).toArray) w4.heap.size 26 (D.map byt).toArray := fun cs => (m0 cs).setRow _
  have hbx : ∀ cs, Below w4.heap.size w4 ((w4.alloc (.cells cs 26)).setRow w4.heap.size (D.map byt).toArray) := fun cs => below_setRow ((Below.refl _ _).alloc (Nat.le_refl _) _) (Nat.le_refl _) _
  go_wp2_with (with_reducible refine wpList_store_row rfl 26 _ _ rfl w4.heap.size _ rfl rfl _ _ (m0 _).eq (by rw [hZ.out]; simp [HDl.out]) (by simp [HDl.out]) (all_oneCell_toArray (byt_one _)) ?_)
  have q1 := hbx #[Value.int .u8 0, Value.int .u8 0, Value.int .u8 0, Value.int .u8 0, Value.int .u8 0, Value.int .u8 0, Value.int .u8 0, Value.int .u8 0, Value.int .u8 0, Value.int .u8 0, Value.int .u8 0, Value.int .u8 0, Value.int .u8 0, Value.int .u8 0, Value.int .u8 0, Value.int .u8 0, Value.int .u8 0, Value.int .u8 0, Value.int .u8 0, Value.int .u8 0, Value.int .u8 0, Value.int .u8 0, Value.int .u8 0, Value.int .u8 0, Value.int .u8 0, Value.int .u8 0, Value.int .u8 0, Value.int .u8 0, Value.int .u8 0, Value.int .u8 0, Value.int .u8 0, Value.int .u8 0]
  have q2 := m1 #[Value.int .u8 0, Value.int .u8 0, Value.int .u8 0, Value.int .u8 0, Value.int .u8 0, Value.int .u8 0, Value.int .u8 0, Value.int .u8 0, Value.int .u8 0, Value.int .u8 0, Value.int .u8 0, Value.int .u8 0, Value.int .u8 0, Value.int .u8 0, Value.int .u8 0, Value.int .u8 0, Value.int .u8 0, Value.int .u8 0, Value.int .u8 0, Value.int .u8 0, Value.int .u8 0, Value.int .u8 0, Value.int .u8 0, Value.int .u8 0, Value.int .u8 0, Value.int .u8 0, Value.int .u8 0, Value.int .u8 0, Value.int .u8 0, Value.int .u8 0, Value.int .u8 0, Value.int .u8 0]
  clear hbx m0 m1
  generalize (w4.alloc (Obj.cells #[Value.int .u8 0, Value.int .u8 0, Value.int .u8 0, Value.int .u8 0, Value.int .u8 0, Value.int .u8 0, Value.int .u8 0, Value.int .u8 0, Value.int .u8 0, Value.int .u8 0, Value.int .u8 0, Value.int .u8 0, Value.int .u8 0, Value.int .u8 0, Value.int .u8 0, Value.int .u8 0, Value.int .u8 0, Value.int .u8 0, Value.int .u8 0, Value.int .u8 0, Value.int .u8 0, Value.int .u8 0, Value.int .u8 0, Value.int .u8 0, Value.int .u8 0, Value.int .u8 0, Value.int .u8 0, Value.int .u8 0, Value.int .u8 0, Value.int .u8 0, Value.int .u8 0, Value.int .u8 0] 26)).setRow w4.heap.size (D.map byt).toArray = W5 at q1 q2 ⊢
  have hbd := q2.bytes (by rw [HDl.out]; omega)
  rw [HDl.out] at hbd
  have HBD := Lib.hid hbd
  have HBL := Lib.hid (hbl4.below q1 (Nat.le_refl _))
  have HBY := Lib.hid (hby4.below q1 (Nat.le_refl _))
  have HP := Lib.hid (hp4.below q1 (Nat.le_refl _))
  have HP' := Lib.hid (hp4'.below q1 (Nat.le_refl _))
  have HT := Lib.hid (hT4.below (Nat.le_refl _) q1)
  have HW := Lib.hid (hw4.trans (q1.mono hw4.size))
  clear q1 q2 hbd hbl4 hby4 hp4 hp4' hT4 hw4
  have hst := fun g W => run_sliceAt_whole (P := Tryd.prog) (t := 26) (e := 5) (n := 32) Tryd.underlying26 (by kernel_rfl) g W
  have hc1 := fun W h1 h2 h3 => hof (.slice A p.length c) (.slice A' p'.length c') p p' Q Q' W h1 h2 h3 (by omega) (by omega)
  have hc2 := fun W h1 h2 h3 => hof v2 (.slice A' p'.length c') P p' (fun b => W0.heap.size ≤ b) Q' W h1 h2 h3 (by omega) (by omega)
  have hc3 := fun W h1 h2 h3 => hof (.slice (some ⟨w2.heap.size, 0, none⟩) m m) (.slice A' p'.length c') L p' (fun b => b = w2.heap.size) Q' W h1 h2 h3 (by omega) (by omega)
  have hc4 := fun W h1 h2 h3 => hof (.slice (some ⟨w4.heap.size, 0, none⟩) 32 32) (.slice A' p'.length c') D p' (fun b => b = w4.heap.size) Q' W h1 h2 h3 (by have := HDl.out; omega) (by omega)
  rw [hpad] at hc2
  rw [← hlong] at hc4
  have ml1 : (hmac p p').length = 32 := sha_length _
  have ml2 : (hmac L p').length = 32 := sha_length _
  have te := tag_eql (hmac p p') ml1
  have te2 := tag_eql (hmac L p') ml2
  clear hpad hlong ml1 ml2
  generalize hmac p p' = M at hc1 hc2 te
  generalize hmac L p' = N at hc3 hc4 te2
  have C1 := Lib.hid hc1
  have C2 := Lib.hid hc2
  have C3 := Lib.hid hc3
  have C4 := Lib.hid hc4
  clear hc1 hc2 hc3 hc4
  go_region_held3 (fun _ => True) (trivial)
    (first
      | (go_at_call 23; refine (hawake _ (HT.out.below (Nat.le_refl _) hq9)).mono ?_; rintro e w10 ⟨rfl, hb10⟩; have hq10 := hq9.trans (hb10.mono hq9.size))
      | (go_at_call 21; refine (C4.out _ (HBD.out.below hq8 (Nat.le_refl _)) (HP'.out.below hq8 (Nat.le_refl _)) (HT.out.below (Nat.le_refl _) hq8)).mono ?_; rintro e w9 ⟨rfl, hb9⟩; have hq9 := hq8.trans (hb9.mono hq8.size))
      | (go_at_call 21; refine (C3.out _ (HBL.out.below hq7 (Nat.le_refl _)) (HP'.out.below hq7 (Nat.le_refl _)) (HT.out.below (Nat.le_refl _) hq7)).mono ?_; rintro e w8 ⟨rfl, hb8⟩; have hq8 := hq7.trans (hb8.mono hq7.size))
      | (go_at_call 21; refine (C2.out _ (HBY.out.below hq6 (Nat.le_refl _)) (HP'.out.below hq6 (Nat.le_refl _)) (HT.out.below (Nat.le_refl _) hq6)).mono ?_; rintro e w7 ⟨rfl, hb7⟩; have hq7 := hq6.trans (hb7.mono hq6.size))
      | (go_at_call 21; refine (C1.out W5.drew HP.out HP'.out HT.out).mono ?_; rintro e w6 ⟨rfl, hb6⟩; have hq6 : Below W5.heap.size W5 w6 := ((Below.refl _ _).drew).trans hb6))
  go_wp2
  go_ret
  exact ⟨rfl, HW.out.trans (hq10.mono HW.out.size)⟩
end Go.Proofs.YtbbpdcnmoabooaaDoor
