/-
  The program's shrink: the valid authority of a set.
  The program's shrink, for every authority in its limits.
-/
import Derived.Test.YtgbcncfhmnhljaaDoorPk16
import Derived.Test.YtgbcncfhmnhljaaDoorPk19
namespace Go.Proofs.YtgbcncfhmnhljaaDoor
open Go Go.RowKit Sh Leaf

/-- While shrink goes on, ahead of day d. -/
structure ShI (w : World) (a : Aut) (A : Option Addr) (c : Nat) (wr : World) (d : Nat) (v : Value) (fo : List (Int × Int)) (dy : Nat) (lo hi : Int) : Prop where
  box : ARow wr w.heap.size a.none a.zones a.lines a.days a.lo a.hi (.slice A a.daily.length c) a.holder
  res : ARow wr (w.heap.size + 1) false 0 0 0 0 0 (.slice none 0 0) []
  ex : ARow wr (w.heap.size + 2) a.none a.zones a.lines (dy : Nat) lo hi (.slice A a.daily.length c) a.holder
  own : OwnSp wr (w.heap.size + 3) v fo
  bd : ∀ s ∈ fo, sbd s
  gat : Gat (ahd a d) fo dy lo hi
  len : fo.length ≤ 1440 * (d - a.lo.toNat / 1440)
  first : a.lo.toNat / 1440 ≤ d
  low : Below w.heap.size w wr
set_option maxRecDepth 100000 in
set_option maxHeartbeats 2000000 in
theorem ashrink_bad {w : World} {A : Option Addr} {c : Nat} {no : Bool} {z l d : Nat} {lo hi : Int} {nm : List B8} {n : Nat} (hb : no = true ∨ z = 0 ∨ l = 0) :
    Calls Tryd.prog 31 #[.agg (arow no z l d lo hi (.slice A n c) nm)] w fun e w' => e = .returned (.agg (arow true 0 0 0 0 0 (.slice none 0 0) [])) ∧ Below w.heap.size w w' := by
  have hno := fun W => anone W
  obtain ⟨B1, hB1⟩ : ∃ b, b = no := ⟨_, rfl⟩
  obtain ⟨B2, hB2⟩ : ∃ b, b = ((z : Int) == 0) := ⟨_, rfl⟩
  obtain ⟨B3, hB3⟩ : ∃ b, b = ((l : Int) == 0) := ⟨_, rfl⟩
  have hor : B1 = true ∨ (B1 = false ∧ B2 = true) ∨ (B1 = false ∧ B2 = false ∧ B3 = true) := by
    subst hB1
    cases B1
    · rcases hb with h | h | h
      · cases h
      · exact .inr (.inl ⟨rfl, by rw [hB2, h]; rfl⟩)
      · cases B2
        · exact .inr (.inr ⟨rfl, rfl, by rw [hB3, h]; rfl⟩)
        · exact .inr (.inl ⟨rfl, rfl⟩)
    · exact .inl rfl
  rw [← hB1]
  clear hB1 hb
  have HB2 := Lib.hid hB2
  have HB3 := Lib.hid hB3
  clear hB2 hB3
  have esn : sof [] = { data := #[] } := by unfold sof; rfl
  have HX : Hid (∀ o W, Below (w.heap.size + 2) ((w.alloc o).alloc (.cells #[.bool false, .int .u64 0, .int .u64 0, .int .u64 0, .int .i64 0, .int .i64 0, .slice none 0 0, .string { data := #[] }] 25)) W → Whole W (w.heap.size + 1) 25 #[.bool false, .int .u64 0, .int .u64 0, .int .u64 0, .int .i64 0, .int .i64 0, .slice none 0 0, .string { data := #[] }] ∧ Below w.heap.size w W) := Lib.hid fun o W hb =>
    ⟨Whole.below (Whole.at_ _ _ _ _ (by simp)) hb (by omega), (((Below.refl w.heap.size w).alloc (Nat.le_refl _) _).alloc (by simp) _).trans (hb.mono (by omega))⟩
  rcases hor with rfl | ⟨rfl, rfl⟩ | ⟨rfl, rfl, rfl⟩
  all_goals
    go_enter Tryd.func31, Tryd.ntmps31
    have hb2' := HB2.out
    have hb3' := HB3.out
    (try rw [eq_comm] at hb2')
    (try rw [eq_comm] at hb3')
    go_wp2_with fail
    refine (hno _).mono ?_
    rintro e w2 ⟨rfl, hb2⟩
    obtain ⟨hW, hB⟩ := HX.out _ w2 (by simpa using hb2)
    have HW := Lib.hid (hW.setRow (arow true 0 0 0 0 0 (.slice none 0 0) []))
    have HB := Lib.hid (below_setRow (g := w.heap.size + 1) hB (by omega) (arow true 0 0 0 0 0 (.slice none 0 0) []))
    clear hb2 hB hno hb2' hb3'
    go_wp2_with (with_reducible refine wpList_store_aut rfl _ _ rfl (g := w.heap.size + 1) rfl rfl hW (by with_unfolding_all rfl) (by with_unfolding_all rfl) (by with_unfolding_all rfl) ?_)
    refine bodyPost_ret (results_aut (g := w.heap.size + 1) Tryd.results31 _ rfl rfl HW.out) rfl ?_
    exact ⟨rfl, HB.out⟩
theorem ShI.drewN {w wr : World} {a : Aut} {A : Option Addr} {c d : Nat} {v : Value} {fo : List (Int × Int)} {dy : Nat} {lo hi : Int} (h : ShI w a A c wr d v fo dy lo hi) (n : Nat) : ShI w a A c (wr.drewN n) d v fo dy lo hi :=
  ⟨h.box, h.res, h.ex, h.own, h.bd, h.gat, h.len, h.first, below_drewN h.low n⟩
/-- Only the block g changed. -/
structure PutB (g : Nat) (w w' : World) : Prop where
  os : w'.os = w.os
  tape : w'.tape = w.tape
  output : w'.output = w.output
  size : w'.heap.size = w.heap.size
  block : ∀ k, k ≠ g → w'.heap[k]? = w.heap[k]?
theorem PutB.refl (g : Nat) (w : World) : PutB g w w := ⟨rfl, rfl, rfl, rfl, fun _ _ => rfl⟩
theorem PutB.setCell {g : Nat} {w w' : World} (h : PutB g w w') (i : Nat) (u : Value) : PutB g w (w'.setCell ⟨g, i, none⟩ u) :=
  ⟨h.os, h.tape, h.output, by rw [← h.size]; simp [World.setCell], fun k hk => (heap_setCell_other w' ⟨g, i, none⟩ k u hk).trans (h.block k hk)⟩
theorem PutB.drewN {g : Nat} {w w' : World} (h : PutB g w w') (n : Nat) : PutB g w (w'.drewN n) := ⟨h.os, h.tape, h.output, h.size, h.block⟩
theorem PutB.drew {g : Nat} {w w' : World} (h : PutB g w w') : PutB g w w'.drew := ⟨h.os, h.tape, h.output, h.size, h.block⟩
theorem PutB.below {g B : Nat} {w w' : World} (h : PutB g w w') (hb : B ≤ g) : Below B w w' := ⟨h.os, h.tape, h.output, Nat.le_of_eq h.size.symm, fun k hk => h.block k (by omega)⟩
theorem PutB.own {g base n size : Nat} {w w' : World} {e : TypeId} {v : Value} {xs : List Value} (h : PutB g w w') (ho : w.ownsRow base e size v n xs) (hg : g < base) : w'.ownsRow base e size v n xs := by
  refine ⟨ho.1, ?_⟩
  rcases ho.2 with h2 | ⟨b, cap, cur, hv, hb, hh, r⟩
  · exact .inl h2
  · exact .inr ⟨b, cap, cur, hv, hb, (h.block b (by omega)).trans hh, r⟩
theorem PutB.seq {g : Nat} {w w' : World} {α : Type} {f : α → List Value} {ok : α → Prop} {Q : Nat → Prop} {A : Option Addr} {c : Nat} {l : List α} (h : PutB g w w') (hs : Seq f ok w Q A c l) (hq : ¬ Q g) : Seq f ok w' Q A c l :=
  hs.keep (Nat.le_of_eq h.size.symm) fun k _ hk => h.block k fun e => hq (e ▸ hk)
def ShR (w : World) (a : Aut) (A : Option Addr) (c : Nat) (wr : World) (d : Nat) (v : Value) : Prop := ∃ fo dy lo hi, ShI w a A c wr d v fo dy lo hi
theorem ShI.size {w wr : World} {a : Aut} {A : Option Addr} {c d : Nat} {v : Value} {fo : List (Int × Int)} {dy : Nat} {lo hi : Int} (h : ShI w a A c wr d v fo dy lo hi) : w.heap.size + 3 ≤ wr.heap.size := h.ex.lt
/-- The world goes on, above. -/
theorem ShI.below {w wr W : World} {a : Aut} {A : Option Addr} {c d : Nat} {v : Value} {fo : List (Int × Int)} {dy : Nat} {lo hi : Int} (h : ShI w a A c wr d v fo dy lo hi) (hb : Below wr.heap.size wr W) : ShI w a A c W d v fo dy lo hi :=
  have hs := h.size
  ⟨Whole.below h.box hb h.box.lt, Whole.below h.res hb h.res.lt, Whole.below h.ex hb h.ex.lt, own_below h.own hb (Nat.le_refl _), h.bd, h.gat, h.len, h.first, h.low.trans (hb.mono (by omega))⟩
/-- Another day with the same minutes ahead of it. -/
theorem ShI.jump {w wr : World} {a : Aut} {A : Option Addr} {c d d' : Nat} {v : Value} {fo : List (Int × Int)} {dy : Nat} {lo hi : Int} (h : ShI w a A c wr d v fo dy lo hi) (hd : d ≤ d') (e : ∀ x, ahd a d x ↔ ahd a d' x) : ShI w a A c wr d' v fo dy lo hi :=
  ⟨h.box, h.res, h.ex, h.own, h.bd, h.gat.congr e, Nat.le_trans h.len (Nat.mul_le_mul_left _ (by omega)), Nat.le_trans h.first hd, h.low⟩
/-- A day with minutes. -/
theorem ShI.step {w wr W : World} {a : Aut} {A : Option Addr} {c d : Nat} {v v2 : Value} {fo : List (Int × Int)} {dy : Nat} {lo hi lo2 : Int} (h : ShI w a A c wr d v fo dy lo hi) (hw : Wk a) (hs : d ≤ a.lo.toNat / 1440 + 7 ∨ a.hi.toNat / 1440 ≤ d + 7) {s0 : Int × Int} {r m : List (Int × Int)} {p q : Int} (h1 : ond a d = s0 :: r) (h2 : ond a d = m ++ [(p, q)])
    (e : lo2 = if fo = [] then d * 1440 + s0.1 else lo) (hb : Below (w.heap.size + 2) wr W) (hr : ARow W (w.heap.size + 2) a.none a.zones a.lines ((dy ||| 2 ^ (d % 7) : Nat) : Int) lo2 (d * 1440 + q) (.slice A a.daily.length c) a.holder) (ho : OwnSp W (w.heap.size + 3) v2 (fo ++ ond a d)) : ShR w a A c W (d + 1) v2 := by
  subst e
  have hf := h.first
  have hlen := ond_len hw d
  refine ⟨_, _, _, _, Whole.below h.box hb (by omega), Whole.below h.res hb (by omega), hr, ho, fun s hs => ?_, (h.gat.add hw d (fun x hx => hx.2.2) h1 h2).congr (ahd_next hs), ?_, by omega, h.low.trans (hb.mono (by omega))⟩
  · rcases List.mem_append.1 hs with hs | hs
    · exact h.bd s hs
    · have h3 := asc_mem (ond_asc hw d) s hs
      have h4 := ond_less hw d s hs
      exact ⟨⟨by omega, by omega⟩, ⟨by omega, by omega⟩⟩
  · have := h.len
    have e3 : d + 1 - a.lo.toNat / 1440 = (d - a.lo.toNat / 1440) + 1 := by omega
    rw [List.length_append, e3, Nat.mul_add]
    omega
set_option maxRecDepth 100000 in
set_option maxHeartbeats 4000000 in
theorem ashrink_ok {w : World} {Q : Nat → Prop} {A : Option Addr} {c : Nat} {z l D : Nat} {lo hi : Int} {da : List (Int × Int)} {nm : List B8} (hS : Spn w Q A c da) (hab : abd ⟨false, z, l, D, lo, hi, da, nm⟩) (hw : Wk ⟨false, z, l, D, lo, hi, da, nm⟩) (hz : z ≠ 0) (hl : l ≠ 0) :
    Calls Tryd.prog 31 #[.agg (arow false z l D lo hi (.slice A da.length c) nm)] w fun e w' => (∃ x m, e = .returned x ∧ Av w' (fun g => w.heap.size ≤ g) x m ∧ IsSet (ina ⟨false, z, l, D, lo, hi, da, nm⟩) m) ∧ Below w.heap.size w w' := by
  obtain ⟨a, ha⟩ : ∃ a : Aut, a = ⟨false, z, l, D, lo, hi, da, nm⟩ := ⟨_, rfl⟩
  rw [← ha] at hab hw ⊢
  have hx : Av w Q (.agg (arow false z l D lo hi (.slice A da.length c) nm)) a := ⟨A, c, by rw [ha], by rw [ha]; exact hS, hab⟩
  have HX := Lib.hid (hx.any)
  have hlo := hw.lo
  have hhi := hw.hi
  rw [ha] at hlo hhi
  simp only at hlo hhi
  obtain ⟨F, hF⟩ : ∃ n, n = lo.toNat / 1440 := ⟨_, rfl⟩
  obtain ⟨L, hL⟩ : ∃ n, n = hi.toNat / 1440 := ⟨_, rfl⟩
  have e1 : lo.tdiv 1440 = (F : Int) := by rw [Int.tdiv_eq_ediv_of_nonneg (by omega), hF]; omega
  have e2 : hi.tdiv 1440 = (L : Int) := by rw [Int.tdiv_eq_ediv_of_nonneg (by omega), hL]; omega
  have w1 : IntKind.i64.wrap (F : Int) = (F : Int) := by rw [IntKind.wrap_i64]; omega
  have w2 : IntKind.i64.wrap (L : Int) = (L : Int) := by rw [IntKind.wrap_i64]; omega
  have hF4 : F ≤ 46604 := by omega
  have hL4 : L ≤ 46604 := by omega
  have hzb : ((z : Int) == 0) = false := by simp [hz]
  have hlb : ((l : Int) == 0) = false := by simp [hl]
  have HA := Lib.hid ha
  have HWK := Lib.hid hw
  have HF := Lib.hid hF
  have HLD := Lib.hid hL
  have esn : sof [] = { data := #[] } := by unfold sof; rfl
  have HZ : Hid (z ≠ 0 ∧ l ≠ 0) := Lib.hid ⟨hz, hl⟩
  clear ha hw hF hL hab hS hx hlo hhi hz hl
  go_enter Tryd.func31, Tryd.ntmps31
  go_upto_region 6 with fail
  obtain ⟨wz, hwz⟩ : ∃ wz, wz = (((w.alloc (.cells (arow false z l D lo hi (.slice A da.length c) nm) 25)).alloc (.cells #[.bool false, .int .u64 0, .int .u64 0, .int .u64 0, .int .i64 0, .int .i64 0, .slice none 0 0, .string { data := #[] }] 25)).alloc (.cells #[.bool false, .int .u64 z, .int .u64 l, .int .u64 0, .int .i64 lo, .int .i64 hi, .slice A da.length c, .string (sof nm)] 25)) := ⟨_, rfl⟩
  have hI : ShI w a A c wz F (.slice none 0 0) [] 0 lo hi := by
    rw [HA.out, hwz]
    refine ⟨((Whole.here _ _ _).alloc _).alloc _, ?_, Whole.at_ _ _ _ _ (by simp), owns_nil _ _, fun s hs => by simp at hs, Gat.empty ?_ _ _, by simp, by simp only; rw [HF.out]; exact Nat.le_refl _, (((Below.refl w.heap.size w).alloc (Nat.le_refl _) _).alloc (by simp) _).alloc (by simp; omega) _⟩
    · show Whole _ _ _ #[_, _, _, _, _, _, _, .string (sof [])]
      rw [esn]
      exact (Whole.at_ _ _ _ _ (by simp)).alloc _
    · rw [HF.out]; exact ahd_first
  have hc : wz.cell? ⟨w.heap.size, 4, none⟩ = some (.int .i64 lo) ∧ wz.cell? ⟨w.heap.size, 5, none⟩ = some (.int .i64 hi) := by
    have h := hI.box.cells
    rw [HA.out] at h
    exact ⟨h.2.2.2.2.1, h.2.2.2.2.2.1⟩
  obtain ⟨c4, c5⟩ := hc
  rw [← hwz]
  have HI := Lib.hid hI
  clear hwz hI hzb hlb
  go_quiet (fail)
  have HI := Lib.hid (HI.out.drewN nq)
  clear c4 c5 e1 e2 w1 w2
  go_wp2_with fail
  go_loopw [4, 7] (fun v dv wr => ∃ d : Nat, dv = .int .i64 d ∧ F ≤ d ∧ (d ≤ F ∨ d ≤ L + 1) ∧ (d ≤ F + 8 ∨ L ≤ d + 7) ∧ ShR w a A c wr d v) (fun _ dv _ => L + 1 - (intOf dv).toNat)
  case atStart => exact ⟨F, rfl, Nat.le_refl _, .inl (Nat.le_refl _), .inl (by omega), _, _, _, _, HI.out⟩
  case round =>
    clear HI
    obtain ⟨d, rfl, hd0, hd1, hd2, hR⟩ := hrel
    have HR := Lib.hid hR
    clear hR
    by_cases hdl : d ≤ L
    case neg =>
      obtain ⟨fo, dy, lo', hi', hI⟩ := HR.out
      obtain ⟨A4, c4, rfl, hS4⟩ := hI.own.seq hI.bd
      have hdl2 : (L : Int) < (d : Int) := by omega
      have hhd : a.hi.toNat / 1440 < d := by
        have haL : a.hi.toNat / 1440 = L := by rw [HA.out, HLD.out]
        omega
      have HI := Lib.hid hI
      have HS4 := Lib.hid (hS4.mono (Q' := fun _ => True) fun _ _ _ => trivial)
      have hno := fun W => anone W
      have hsz := hI.size
      have HHD := Lib.hid hhd
      clear hI HR hS4 hhd HX
      by_cases hfo : fo = []
      · subst hfo
        have HSET : Hid (IsSet (ina a) .never) := Lib.hid (gat_void HWK.out HHD.out HI.out.gat)
        rw [List.length_nil]
        clear HS4
        go_wp2_with fail
        refine (hno _).mono ?_
        rintro e w5 ⟨rfl, hb5⟩
        have hW : ARow w5 (w.heap.size + 1) false 0 0 0 0 0 (.slice none 0 0) [] := Whole.below HI.out.res hb5 HI.out.res.lt
        have HW := Lib.hid (hW.setRow (arow true 0 0 0 0 0 (.slice none 0 0) []))
        have HB := Lib.hid (below_setRow (g := w.heap.size + 1) (HI.out.low.trans (hb5.mono (by omega))) (by omega) (arow true 0 0 0 0 0 (.slice none 0 0) []))
        clear hb5 hno
        go_wp2_with (with_reducible refine wpList_store_aut rfl _ _ rfl (g := w.heap.size + 1) rfl rfl hW (by with_unfolding_all rfl) (by with_unfolding_all rfl) (by with_unfolding_all rfl) ?_)
        refine bodyPost_ret (results_aut (g := w.heap.size + 1) Tryd.results31 _ rfl rfl HW.out) rfl ?_
        exact ⟨⟨_, .never, rfl, av_never _ _, HSET.out⟩, HB.out⟩
      · have hb : ((fo.length : Int) == 0) = false := by
          have : fo.length ≠ 0 := fun e => hfo (List.eq_nil_of_length_eq_zero e)
          simp [this]
        have hgb := HI.out.gat.bd
        have hll : fo.length ≤ 100000000 := by
          have h1 := HI.out.len
          have h3 : d - a.lo.toNat / 1440 ≤ 46605 := by omega
          have h4 : 1440 * (d - a.lo.toNat / 1440) ≤ 1440 * 46605 := Nat.mul_le_mul_left _ h3
          omega
        have hmg := amerge HS4.out hfo hll hgb fo.length rfl
        have HFO := Lib.hid hfo
        clear hgb hll hfo HS4 hno
        go_wp2_with fail
        refine hmg.mono ?_
        rintro e w5 ⟨⟨A6, c6, n6, mg, rfl, hn6, hS6, hsp, hls, heq⟩, hb5⟩
        have hex : ARow w5 (w.heap.size + 1 + 1) false z l dy lo' hi' (.slice A da.length c) nm := by
          have := Whole.below HI.out.ex hb5 (by omega)
          rw [HA.out] at this
          exact this
        obtain ⟨-, -, -, -, -, -, z6, -⟩ := hex.cells
        have f6 := Whole.frozen hex 6
        have hr6 := ARow.set6 hex (.slice A6 n6 c6)
        have hres : ARow (w5.setCell ⟨w.heap.size + 1 + 1, 6, none⟩ (.slice A6 n6 c6)) (w.heap.size + 1) false 0 0 0 0 0 (.slice none 0 0) [] := Whole.far (Whole.below HI.out.res hb5 HI.out.res.lt) (a := ⟨w.heap.size + 1 + 1, 6, none⟩) (by show w.heap.size + 1 ≠ w.heap.size + 1 + 1; omega) _
        have HSET : Hid (IsSet (ina a) ⟨false, z, l, dy, lo', hi', mg, nm⟩) := Lib.hid (by
          have h := gat_set HWK.out (by rw [HA.out]) (by rw [HA.out]; exact HZ.out.1) (by rw [HA.out]; exact HZ.out.2) HHD.out HI.out.gat HFO.out hsp hls heq
          rw [HA.out] at h ⊢
          exact h)
        have hpb : PutB (w.heap.size + 1 + 1) w5 (w5.setCell ⟨w.heap.size + 1 + 1, 6, none⟩ (.slice A6 n6 c6)) := (PutB.refl _ w5).setCell 6 _
        have hS7 : Spn (w5.setCell ⟨w.heap.size + 1 + 1, 6, none⟩ (.slice A6 n6 c6)) (fun g => w.heap.size + 3 ≤ g) A6 c6 mg := hpb.seq (hS6.mono fun g _ hg => Nat.le_trans hsz hg) (by show ¬ (w.heap.size + 3 ≤ w.heap.size + 1 + 1); omega)
        obtain ⟨w6, hw6⟩ : ∃ w6, w6 = w5.setCell ⟨w.heap.size + 1 + 1, 6, none⟩ (.slice A6 n6 c6) := ⟨_, rfl⟩
        have hlow6 : Below w.heap.size w w6 := by rw [hw6]; exact (HI.out.low.trans (hb5.mono (by omega))).trans (hpb.below (by omega))
        rw [← hw6] at hr6 hres hS7
        have HW := Lib.hid (hres.setRow (arow false z l dy lo' hi' (.slice A6 n6 c6) nm))
        have HB := Lib.hid (below_setRow (g := w.heap.size + 1) hlow6 (by omega) (arow false z l dy lo' hi' (.slice A6 n6 c6) nm))
        have HS8 : Hid (Spn (w6.setRow (w.heap.size + 1) (arow false z l dy lo' hi' (.slice A6 n6 c6) nm)) (fun g => w.heap.size ≤ g) A6 c6 mg) := Lib.hid ((hS7.keep (w' := w6.setRow (w.heap.size + 1) (arow false z l dy lo' hi' (.slice A6 n6 c6) nm)) (by simp [World.setRow]) fun g _ hg => setRow_other w6 (w.heap.size + 1) g _ (by have : w.heap.size + 3 ≤ g := hg; omega)).mono fun g _ hg => by
          have : w.heap.size + 3 ≤ g := hg
          show w.heap.size ≤ g
          omega)
        have HN6 := Lib.hid hn6
        clear hb5 hS6 hS7 hpb hlow6 hsp hls heq hn6 hex hmg hb
        go_upto_region 22 with fail
        rw [← hw6]
        clear hw6 z6 f6
        go_wp2_with (first
          | (with_reducible refine wpList_load_aut rfl _ rfl rfl hr6 ?_)
          | (with_reducible refine wpList_store_aut rfl _ _ rfl (g := w.heap.size + 1) rfl rfl hres (by with_unfolding_all rfl) (by with_unfolding_all rfl) (by with_unfolding_all rfl) ?_))
        refine bodyPost_ret (results_aut (g := w.heap.size + 1) Tryd.results31 _ rfl rfl HW.out) rfl ?_
        refine ⟨⟨_, ⟨false, z, l, dy, lo', hi', mg, nm⟩, rfl, ⟨A6, c6, by rw [HN6.out], HS8.out, aok_abd HSET.out.1⟩, HSET.out⟩, HB.out⟩
    -- the jump
    obtain ⟨d', hdd, hdl', hseen, hR, hway⟩ : ∃ d' : Nat, d ≤ d' ∧ d' ≤ L ∧ (d' ≤ F + 7 ∨ L ≤ d' + 7) ∧ ShR w a A c wr d' u4 ∧ (((d : Int) = (F : Int) + 8 ∧ (d : Int) < (L : Int) - 7 ∧ (d' : Int) = (L : Int) - 7) ∨ ((d : Int) = (F : Int) + 8 ∧ (L : Int) - 7 < (d : Int) ∧ d' = d) ∨ ((d : Int) = (F : Int) + 8 ∧ (L : Int) - 7 = (d : Int) ∧ d' = d) ∨ (¬ (d : Int) = (F : Int) + 8 ∧ d' = d)) := by
      obtain ⟨fo, dy, lo', hi', hI⟩ := HR.out
      have haF : a.lo.toNat / 1440 = F := by rw [HA.out, HF.out]
      have haL : a.hi.toNat / 1440 = L := by rw [HA.out, HLD.out]
      by_cases h1 : d = F + 8
      · rcases (by omega : d + 7 < L ∨ L < d + 7 ∨ L = d + 7) with h2 | h2 | h2
        · exact ⟨L - 7, by omega, by omega, .inr (by omega), ⟨_, _, _, _, hI.jump (by omega) (ahd_jump (by omega) (by omega) (by omega))⟩, .inl ⟨by omega, by omega, by omega⟩⟩
        · exact ⟨d, by omega, by omega, .inr (by omega), HR.out, .inr (.inl ⟨by omega, by omega, rfl⟩)⟩
        · exact ⟨d, by omega, by omega, .inr (by omega), HR.out, .inr (.inr (.inl ⟨by omega, by omega, rfl⟩))⟩
      · exact ⟨d, by omega, by omega, by omega, HR.out, .inr (.inr (.inr ⟨by omega, rfl⟩))⟩
    have HR' := Lib.hid hR
    have HSEEN : Hid (d' ≤ a.lo.toNat / 1440 + 7 ∨ a.hi.toNat / 1440 ≤ d' + 7) := Lib.hid (by
      have haF : a.lo.toNat / 1440 = F := by rw [HA.out, HF.out]
      have haL : a.hi.toNat / 1440 = L := by rw [HA.out, HLD.out]
      omega)
    have w1 : IntKind.i64.wrap ((F : Int) + 8) = (F : Int) + 8 := by rw [IntKind.wrap_i64]; omega
    have w2 : IntKind.i64.wrap ((L : Int) - 8) = (L : Int) - 8 := by rw [IntKind.wrap_i64]; omega
    have w3 : IntKind.i64.wrap ((L : Int) - 8 + 1) = (L : Int) - 7 := by rw [IntKind.wrap_i64]; omega
    have hdl2 : (d : Int) ≤ (L : Int) := by omega
    clear hR HR
    go_upto_if 39 with fail
    go_cut [7] (fun dv wx => dv = .int .i64 (d' : Int) ∧ wx = wr)
    case first =>
      clear HR' HSEEN HX HWK HA
      rcases hway with ⟨h1, h2, h3⟩ | ⟨h1, h2, rfl⟩ | ⟨h1, h2, rfl⟩ | ⟨h1, rfl⟩
      · have hb : ((d : Int) == (F : Int) + 8) = true := by simp [h1]
        clear h1
        go_wp2_with fail
        go_meet
        exact ⟨congrArg _ (by omega), rfl⟩
      · have hb : ((d' : Int) == (F : Int) + 8) = true := by simp [h1]
        clear h1
        go_wp2_with fail
        go_meet
        exact ⟨congrArg _ (by omega), rfl⟩
      · have hb : ((d' : Int) == (F : Int) + 8) = true := by simp [h1]
        clear h1
        go_wp2_with fail
        go_meet
        exact ⟨congrArg _ (by omega), rfl⟩
      · have hb : ((d' : Int) == (F : Int) + 8) = false := by simp [h1]
        clear h1
        go_wp2_with fail
        go_meet
        exact ⟨rfl, rfl⟩
    case rest =>
      obtain ⟨rfl, rfl⟩ := hcut
      clear w1 w2 w3 hway hseen hd2 hdl2
      obtain ⟨fo, dy, lo', hi', hI⟩ := HR'.out
      have hbox := hI.box
      rw [HA.out] at hbox
      have hda := fun W (hW : Below w.heap.size w W) => aonday (HX.out.low hW) HWK.out d' (by omega)
      have hod := hda _ hI.low
      have HI := Lib.hid hI
      have hbox2 : ARow wc w.heap.size false z l D lo hi (.slice A da.length c) nm := hbox
      clear hI HR' hda hbox
      go_wp2_with (with_reducible refine wpList_load_aut rfl _ rfl rfl hbox2 ?_)
      refine hod.mono ?_
      rintro e w5 ⟨⟨A2, c2, n2, rfl, hn2, hS2⟩, hb5⟩
      have HI5 := Lib.hid (HI.out.below hb5)
      have hwc := HI.out.size
      have HS2 := Lib.hid (hS2.mono (Q' := fun g => w.heap.size + 3 ≤ g) fun g _ hg => Nat.le_trans HI.out.size hg)
      have HN2 := Lib.hid hn2
      clear HI hod hbox2 hb5 hS2 hn2 HX
      rcases (by omega : n2 = 0 ∨ 0 < n2) with rfl | hn0
      · have ho : ond a d' = [] := List.eq_nil_of_length_eq_zero HN2.out.symm
        have HR : Hid (ShR w a A c w5 (d' + 1) u4) := Lib.hid ⟨_, _, _, _, HI5.out.jump (by omega) (ahd_none HWK.out ho HSEEN.out)⟩
        have hsn : d' + 1 ≤ F + 8 ∨ L ≤ d' + 1 + 7 := by
          have haF : a.lo.toNat / 1440 = F := by rw [HA.out, HF.out]
          have haL : a.hi.toNat / 1440 = L := by rw [HA.out, HLD.out]
          have := HSEEN.out
          omega
        have HSN := Lib.hid hsn
        clear HI5 ho HS2 HN2 hsn
        go_wp2_with fail
        go_roundw
        case rel => exact ⟨d' + 1, by go_num, by omega, by omega, HSN.out, HR.out⟩
        case measure => simp [intOf]; omega
      · obtain ⟨s0, r, hh⟩ : ∃ s0 r, ond a d' = s0 :: r := by
          cases h : ond a d' with
          | nil => rw [h] at HN2; have := HN2.out; simp at this; omega
          | cons x y => exact ⟨x, y, rfl⟩
        obtain ⟨m, p, q, ht⟩ := last_ex (l := ond a d') (by rw [hh]; simp)
        have hh0 : (ond a d')[0]? = some s0 := by rw [hh]; rfl
        have ht0 : (ond a d')[n2 - 1]? = some (p, q) := by
          have e : n2 - 1 = m.length := by rw [HN2.out, ht]; simp
          rw [e, ht]
          simp
        obtain ⟨g2, o2, rfl, hgl, hg2, x0, _⟩ := Spn.get HS2.out 0 s0 hh0
        obtain ⟨g3, o3, e3, _, _, _, y1⟩ := Spn.get HS2.out (n2 - 1) (p, q) ht0
        injection e3 with e3
        injection e3 with e3 e4
        subst e3 e4
        rw [Nat.zero_mul, Nat.add_zero] at x0
        have hb0 := asc_mem (ond_asc HWK.out d') s0 (by rw [hh]; simp)
        have hb1 := ond_less HWK.out d' s0 (by rw [hh]; simp)
        have hq0 := asc_mem (ond_asc HWK.out d') (p, q) (by rw [ht]; simp)
        have hq1 := ond_less HWK.out d' (p, q) (by rw [ht]; simp)
        simp only at y1 hq0 hq1
        obtain ⟨s1, s2⟩ := s0
        simp only at x0 hb0 hb1
        have wA : IntKind.i64.wrap ((d' : Int) * 1440) = (d' : Int) * 1440 := by rw [IntKind.wrap_i64]; omega
        have wB : IntKind.i64.wrap ((d' : Int) * 1440 + s1) = (d' : Int) * 1440 + s1 := by rw [IntKind.wrap_i64]; omega
        have wC : IntKind.i64.wrap ((d' : Int) * 1440 + q) = (d' : Int) * 1440 + q := by rw [IntKind.wrap_i64]; omega
        obtain ⟨k, rfl⟩ : ∃ k, n2 = k + 1 := ⟨n2 - 1, by omega⟩
        rw [Nat.add_sub_cancel] at y1
        have hk4 : k ≤ 1440 := by have := ond_len HWK.out d'; have := HN2.out; omega
        have wD : IntKind.i64.wrap (((k + 1 : Nat) : Int) - 1) = (k : Int) := by rw [IntKind.wrap_i64]; omega
        have hk0 : (0 : Int) ≤ (k : Int) := by omega
        have hk1 : (k : Int) < ((k + 1 : Nat) : Int) := by omega
        have hex : ARow w5 (w.heap.size + 1 + 1) false z l dy lo' hi' (.slice A da.length c) nm := by have := HI5.out.ex; rw [HA.out] at this; exact this
        obtain ⟨A4, c4, rfl, _⟩ := HI5.out.own.seq HI5.out.bd
        obtain ⟨-, -, -, z3, z4, z5, -, -⟩ := hex.cells
        have f3 := Whole.frozen hex 3
        have f4 := Whole.frozen hex 4
        have f5 := Whole.frozen hex 5
        have hbt := fun W => abit d' (by omega) W
        have hdy : dy < 128 := HI5.out.gat.dlt
        have hpl : 2 ^ (d' % 7) < 18446744073709551616 := by
          have : (2 : Nat) ^ (d' % 7) < 2 ^ 64 := (Nat.pow_lt_pow_iff_right (by omega)).2 (by omega)
          omega
        have hor := bits_or_u64_nat dy (2 ^ (d' % 7)) (by omega) hpl
        obtain ⟨dn, hdn⟩ : ∃ n, n = dy ||| 2 ^ (d' % 7) := ⟨_, rfl⟩
        obtain ⟨pw, hpw⟩ : ∃ n, n = 2 ^ (d' % 7) := ⟨_, rfl⟩
        rw [← hdn] at hor
        rw [← hpw] at hor hbt
        have HDN := Lib.hid hdn
        clear hdn hpw hpl hdy
        have HHH := Lib.hid hh
        have HTT := Lib.hid ht
        have hs3 := HI5.out.size
        have hgx : g2 ≠ w.heap.size + 1 + 1 := by
          intro e
          have : w.heap.size + 3 ≤ g2 := hgl
          omega
        have wE : IntKind.i64.wrap (k : Int) = (k : Int) := by rw [IntKind.wrap_i64]; omega
        clear hh ht hh0 ht0 hb0 hb1 hq0 hq1 hk4 hwc hgl
        obtain ⟨w6, lo2, hw6, hlo2, hr6, hp6⟩ : ∃ w6 lo2, ((fo = [] ∧ w6 = w5.setCell ⟨w.heap.size + 1 + 1, 4, none⟩ (.int .i64 ((d' : Int) * 1440 + s1))) ∨ (fo ≠ [] ∧ w6 = w5)) ∧ (lo2 = if fo = [] then (d' : Int) * 1440 + s1 else lo') ∧ ARow w6 (w.heap.size + 1 + 1) false z l dy lo2 hi' (.slice A da.length c) nm ∧ PutB (w.heap.size + 1 + 1) w5 w6 := by
          by_cases hfo : fo = []
          · exact ⟨_, _, .inl ⟨hfo, rfl⟩, rfl, by rw [if_pos hfo]; exact ARow.set4 hex _, (PutB.refl _ w5).setCell 4 _⟩
          · exact ⟨_, _, .inr ⟨hfo, rfl⟩, rfl, by rw [if_neg hfo]; exact hex, PutB.refl _ w5⟩
        have y2 : w6.cell? ⟨g2, o2 + k * 2 + 1, none⟩ = some (.int .i64 q) := (World.cell?_of_block (hp6.block g2 hgx)).trans y1
        have HR6 := Lib.hid hr6
        have HP6 := Lib.hid hp6
        have HLO := Lib.hid hlo2
        clear hr6 hp6 hlo2 hex
        go_upto_if 53 with fail
        go_cut [8] (fun s wx => s = .slice (some ⟨g2, o2, none⟩) (k + 1) c2 ∧ wx = w6)
        case first =>
          clear y1 y2 z3 z5 f3 f5 hbt hor wC wD wE HR6 HP6 HLO HWK HI5 HS2
          rcases hw6 with ⟨h1, rfl⟩ | ⟨h1, rfl⟩
          · have hb : ((fo.length : Int) == 0) = true := by rw [h1]; rfl
            go_wp2_with fail
            go_meet
            exact ⟨rfl, rfl⟩
          · have hb : ((fo.length : Int) == 0) = false := by
              have : fo.length ≠ 0 := fun e => h1 (List.eq_nil_of_length_eq_zero e)
              simp [this]
            go_wp2_with fail
            go_meet
            exact ⟨rfl, rfl⟩
        case rest =>
          obtain ⟨rfl, rfl⟩ := hcut
          clear hw6 z3 z4 z5 f3 f4 f5 x0 y1 wB
          obtain ⟨-, -, -, -, -, z5, -, -⟩ := HR6.out.cells
          have f5 := Whole.frozen HR6.out 5
          go_upto_region 17 with fail
          obtain ⟨w7, hw7⟩ : ∃ w7, w7 = wc.setCell ⟨w.heap.size + 1 + 1, 5, none⟩ (.int .i64 ((d' : Int) * 1440 + q)) := ⟨_, rfl⟩
          have hr7 : ARow w7 (w.heap.size + 1 + 1) false z l dy lo2 ((d' : Int) * 1440 + q) (.slice A da.length c) nm := by rw [hw7]; exact ARow.set5 HR6.out _
          have hp7 : PutB (w.heap.size + 1 + 1) w5 w7 := by rw [hw7]; exact HP6.out.setCell 5 _
          rw [← hw7]
          clear hw7 z5 f5 wA wC wD wE HR6 HP6
          obtain ⟨-, -, -, z3, -, -, -, -⟩ := hr7.cells
          have f3 := Whole.frozen hr7 3
          have hr8 : ARow (w7.setCell ⟨w.heap.size + 1 + 1, 3, none⟩ (.int .u64 (dn : Int))).drew (w.heap.size + 1 + 1) false z l dn lo2 ((d' : Int) * 1440 + q) (.slice A da.length c) nm := ARow.set3 hr7 dn
          have hp8 : PutB (w.heap.size + 1 + 1) w5 (w7.setCell ⟨w.heap.size + 1 + 1, 3, none⟩ (.int .u64 (dn : Int))).drew := (hp7.setCell 3 _).drew
          obtain ⟨w8, hw8⟩ : ∃ w8, w8 = (w7.setCell ⟨w.heap.size + 1 + 1, 3, none⟩ (.int .u64 (dn : Int))).drew := ⟨_, rfl⟩
          rw [← hw8] at hr8 hp8
          have HR8 := Lib.hid hr8
          have HP8 := Lib.hid hp8
          clear hr7 hp7 hr8 hp8
          go_cut [8] (fun s wx => s = .slice (some ⟨g2, o2, none⟩) (k + 1) c2 ∧ wx = w8)
          case first =>
            clear HS2 HI5 HR8 HP8 HWK HLO
            go_region_with (go_at_call 52; refine (hbt _).mono ?_; rintro e w' ⟨rfl, rfl⟩)
            all_goals
              go_wp2_with fail
              go_meet
              exact ⟨rfl, hw8.symm⟩
          case rest =>
            rename World => wc2
            obtain ⟨rfl, rfl⟩ := hcut
            have HO8 := Lib.hid (HP8.out.own HI5.out.own (by omega))
            have hq8 : ¬ (fun g => w.heap.size + 3 ≤ g) (w.heap.size + 1 + 1) := by simp only; omega
            have HS8 : Hid (Spn wc2 (fun g => w.heap.size + 3 ≤ g) (some ⟨g2, o2, none⟩) c2 (ond a d')) := Lib.hid (HP8.out.seq HS2.out hq8)
            have HSTEP : Hid (∀ v2 W, OwnSp W (w.heap.size + 3) v2 (fo ++ ond a d') → Below (w.heap.size + 3) wc2 W → ShR w a A c W (d' + 1) v2) := Lib.hid fun v2 W ho hb => by
              refine HI5.out.step HWK.out HSEEN.out HHH.out HTT.out HLO.out ((HP8.out.below (by omega)).trans (hb.mono (by omega))) ?_ ho
              have hr := Whole.below HR8.out hb (by omega)
              rw [HDN.out] at hr
              rw [HA.out]
              exact hr
            have HLEN : Hid (fo.length + (k + 1) ≤ 100000000) := Lib.hid (by
              have h1 := HI5.out.len
              have h2 := ond_len HWK.out d'
              have h3 : d' - a.lo.toNat / 1440 ≤ 46604 := by omega
              have h4 : 1440 * (d' - a.lo.toNat / 1440) ≤ 1440 * 46604 := Nat.mul_le_mul_left _ h3
              have := HN2.out
              omega)
            have HSZ : Hid (w.heap.size + 3 ≤ wc2.heap.size) := Lib.hid (by rw [HP8.out.size]; exact hs3)
            have hsn : d' + 1 ≤ F + 8 ∨ L ≤ d' + 1 + 7 := by
              have haF : a.lo.toNat / 1440 = F := by rw [HA.out, HF.out]
              have haL : a.hi.toNat / 1440 = L := by rw [HA.out, HLD.out]
              have := HSEEN.out
              omega
            have HSN := Lib.hid hsn
            clear HR8 HP8 HS2 HI5 hw8 z3 f3 hbt hor hsn HLO hq8
            go_wp2_with (at_builtin; go_must (refine wpList_append_seq rfl _ _ 23 50 _ 16 rfl Tryd.underlying23 spanInfo rfl (by decide) (by decide) scl_len scl_one (w.heap.size + 3) _ fo rfl HO8.out (fun g => w.heap.size + 3 ≤ g) _ (k + 1) c2 (ond a d') HN2.out.symm rfl HS8.out (by rw [← HN2.out]; exact HLEN.out) HSZ.out ?_; intro v2 w9 h1 h2 h3; have HE := Lib.hid (HSTEP.out v2 w9 h1 h2); clear h1 h2 h3))
            go_roundw
            case rel => exact ⟨d' + 1, by go_num, by omega, by omega, HSN.out, HE.out⟩
            case measure => simp [intOf]; omega
end Go.Proofs.YtgbcncfhmnhljaaDoor
namespace Go.Proofs.YtgbcncfhmnhljaaDoor
open Go Go.RowKit Sh Leaf

theorem ashrink {w : World} {Q : Nat → Prop} {x : Value} {a : Aut} (hx : Av w Q x a) (hw : Wk a) :
    Calls Tryd.prog 31 #[x] w fun e w' => (∃ y m, e = .returned y ∧ Av w' (fun g => w.heap.size ≤ g) y m ∧ IsSet (ina a) m) ∧ Below w.heap.size w w' := by
  obtain ⟨A, c, rfl, hS, hab⟩ := hx
  obtain ⟨no, z, l, D, lo, hi, da, nm⟩ := a
  by_cases hb : no = true ∨ z = 0 ∨ l = 0
  · refine (ashrink_bad hb).mono fun e w' h => ?_
    obtain ⟨rfl, h2⟩ := h
    refine ⟨⟨_, .never, rfl, av_never _ _, IsSet.never fun c _ => ina_void hb c⟩, h2⟩
  · have h1 : no = false := by cases no <;> simp_all
    subst h1
    exact ashrink_ok hS hab hw (fun h => hb (.inr (.inl h))) (fun h => hb (.inr (.inr h)))
end Go.Proofs.YtgbcncfhmnhljaaDoor
