/-
  ShaWrite
  ShaRefSha
-/
import Derived.Test.YteekdhcffiaaaaaDoorPk2
import Derived.Test.YteekdhcffiaaaaaDoorPk4
import Derived.Test.YteekdhcffiaaaaaDoorPk6
import Derived.Test.YteekdhcffiaaaaaDoorPk3
import Derived.Test.YteekdhcffiaaaaaDoorPk0
namespace Go.Proofs.YteekdhcffiaaaaaDoor
open Go Go.RowKit Sh Leaf

abbrev hashv (s : St) (v : Value) (n : Int) : Array Value := #[u s.a, u s.b, u s.c, u s.d, u s.e, u s.f, u s.g, u s.h, v, .int .i64 n]
abbrev stl (s : St) : List Value := [u s.a, u s.b, u s.c, u s.d, u s.e, u s.f, u s.g, u s.h]
theorem Whole.setH {w : World} {g : Nat} {t : TypeId} {s : St} {v : Value} {n : Int} (h : Whole w g t (hashv s v n)) (s' : St) : Whole (w.setCells g 0 (stl s')) g t (hashv s' v n) := by
  have h8 := (((((((h.set 0 (u s'.a)).set 1 (u s'.b)).set 2 (u s'.c)).set 3 (u s'.d)).set 4 (u s'.e)).set 5 (u s'.f)).set 6 (u s'.g)).set 7 (u s'.h)
  simp only [List.setIfInBounds_toArray, List.set_cons_zero, List.set_cons_succ] at h8
  simp only [World.setCells]
  exact h8
theorem Whole.there {w : World} {g : Nat} {t : TypeId} {cs : Array Value} (h : Whole w g t cs) (o n : Nat) (hn : o + n ≤ cs.size) : w.there g o n := fun j hj => by
  refine ⟨?_, h.frozen _⟩
  rw [h.cell, Array.getElem?_eq_getElem (by omega)]; rfl
theorem setCells_far (b : Nat) : ∀ (vs : List Value) (o : Nat) (w : World) (g : Nat), g ≠ b → (w.setCells b o vs).heap[g]? = w.heap[g]?
  | [], _, _, _, _ => rfl
  | _ :: r, o, w, g, hg => by
    rw [World.setCells, setCells_far b r (o + 1) _ g hg, heap_setCell_other _ _ _ _ hg]
def slen : Value → Nat
  | .slice _ n _ => n
  | _ => 0

def WriteRel (s : St) (L : List B8) (vr : Value) (n : Int) (w : World) (q : Nat) (vd : Value) (wr : World) : Prop :=
  64 * q ≤ L.length ∧ Bytes wr (fun g => g ≠ w.heap.size ∧ g ≠ w.heap.size + 1) vd (L.drop (64 * q)) ∧ Whole wr w.heap.size 135 (hashv (blocks s L q) vr n) ∧
  (∃ z, z.size = 10 ∧ Whole wr (w.heap.size + 1) 135 z) ∧ Below w.heap.size w wr ∧ Consts wr

set_option maxRecDepth 20000 in
set_option maxHeartbeats 400000 in
theorem write (s : St) (vr vb : Value) (r b : List B8) (n : Nat) (Qr Qb : Nat → Prop) (w : World) (hr : Bytes w Qr vr r) (hb : Bytes w Qb vb b) (hK : Consts w) (hl : r.length + b.length ≤ 1000000000) (hn : n ≤ 1000000000) :
    Calls Tryd.prog 84 #[.agg (hashv s vr (n : Int)), vb] w fun e w' => ∃ v', e = .returned (.agg (hashv (blocks s (r ++ b) ((r ++ b).length / 64)) v' ((n : Int) + (b.length : Int)))) ∧
      Bytes w' (fun g => w.heap.size ≤ g) v' ((r ++ b).drop (64 * ((r ++ b).length / 64))) ∧ Below w.heap.size w w' := by
  have hr' := hr
  have hb' := hb
  obtain ⟨A1, c1, rfl, -⟩ := hr'
  obtain ⟨A2, c2, rfl, -⟩ := hb'
  have HI8 : Hid ((Tryd.prog.info? 117).map (·.size) = some 8) := Lib.hid (by kernel_rfl)
  have HKl : Hid (1 < w.heap.size) := Lib.hid hK.lt
  by_cases h0 : r.length ≤ 0
  focus
    have e0 : r ++ b = b := by rw [List.eq_nil_of_length_eq_zero (Nat.le_zero.1 h0)]; rfl
    have hrel0 : WriteRel s (r ++ b) (.slice A1 r.length c1) ((n : Int) + (b.length : Int)) w 0 (.slice A2 b.length c2) ((w.alloc (.cells (hashv s (.slice A1 r.length c1) ((n : Int) + (b.length : Int))) 135)).alloc (.cells #[.int .u32 0, .int .u32 0, .int .u32 0, .int .u32 0, .int .u32 0, .int .u32 0, .int .u32 0, .int .u32 0, .slice none 0 0, .int .i64 0] 135)) := by
      refine ⟨by omega, ?_, (Whole.here _ _ _).alloc _, ⟨_, rfl, Whole.at_ _ _ _ _ (by simp)⟩, ((Below.refl _ _).alloc (Nat.le_refl _) _).alloc (by simp) _, hK.below (Nat.le_refl _) (((Below.refl _ _).alloc (Nat.le_refl _) _).alloc (by simp) _)⟩
      rw [e0]
      exact (((hb.mono (Q' := fun g => g < w.heap.size) (fun g hg _ => hg)).alloc _).alloc _).mono (fun g _ hg => ⟨by have := hg; omega, by have := hg; omega⟩)
    have HR := Lib.hid hrel0
    clear hrel0 hr hb e0
    have hdec : decide (0 < r.length) = false := by rw [decide_eq_false_iff_not]; omega
    go_enter Tryd.func84, Tryd.ntmps84
    go_wp2
    clear hdec
  rotate_left
  focus
    go_enter Tryd.func84, Tryd.ntmps84
    go_wp2_with fail
    refine (concat (w.heap.size + 1 + 1) _ _ r b Qr Qb _ ((Whole.at_ _ _ _ _ (by simp)).cell 0) ((Whole.at_ _ _ _ _ (by simp)).cell 1) (((hr.alloc _).alloc _).alloc _) (((hb.alloc _).alloc _).alloc _) (by omega) hl).mono ?_
    rintro e W0 ⟨vd, rfl, hd, hbel⟩
    have hrel0 : WriteRel s (r ++ b) (.slice A1 r.length c1) ((n : Int) + (b.length : Int)) w 0 vd W0 := by
      have hbw : Below w.heap.size w W0 := ((((Below.refl _ _).alloc (Nat.le_refl _) _).alloc (by simp) _).alloc (by simp; omega) _).trans (hbel.mono (by simp; omega))
      exact ⟨by omega, hd.mono fun g _ hg => ⟨by have := hg; simp at this; omega, by have := hg; simp at this; omega⟩, (((Whole.here _ _ _).alloc _).alloc _).below hbel (by simp; omega),
        ⟨_, rfl, ((Whole.at_ _ _ _ (w.heap.size + 1) (by simp)).alloc _).below hbel (by simp)⟩, hbw, hK.below (Nat.le_refl _) hbw⟩
    have HR := Lib.hid hrel0
    clear hrel0 hr hb hd hbel
    go_wp2
  all_goals
    clear h0 hK
    go_loopw [5] (fun vd wr => ∃ q : Nat, WriteRel s (r ++ b) (.slice A1 r.length c1) ((n : Int) + (b.length : Int)) w q vd wr) (fun vd _ => slen vd)
    case atStart => exact ⟨0, HR.out⟩
    case round =>
      clear HR
      obtain ⟨q, hq, hbt, hw0, ⟨z, hz, hw1⟩, hbel, hK⟩ := hrel
      have hsz : w.heap.size + 1 < wr.heap.size := hw1.lt
      have hLl : (r ++ b).length ≤ 1000000000 := by simp; omega
      obtain ⟨L, hL⟩ : ∃ L, L = r ++ b := ⟨_, rfl⟩
      rw [← hL] at hq hbt hw0 hLl ⊢
      obtain ⟨D, hD⟩ : ∃ D, D = L.drop (64 * q) := ⟨_, rfl⟩
      rw [← hD] at hbt
      have hDl : D.length ≤ 1000000000 := by rw [hD, List.length_drop]; omega
      have HL := Lib.hid hL
      have HD := Lib.hid hD
      clear hL hD
      have hbt' := hbt
      obtain ⟨A, c, rfl, hDc, hcm, -⟩ := hbt'
      by_cases hlt : 64 ≤ D.length
      · obtain ⟨m, hm⟩ : ∃ m, m = D.take 64 := ⟨_, rfl⟩
        have hm64 : m.length = 64 := by rw [hm]; simp; omega
        have htk := hbt.take 64 hlt
        rw [← hm] at htk
        have HM := Lib.hid hm
        clear hm
        obtain ⟨g, o, rfl, hqg, hrange⟩ := htk.range (by omega)
        clear htk
        have hc1 := fun W => run_cut_to (some ⟨g, o, none⟩) D.length c 64 (by omega) W
        have hc2 := fun W => run_cut_from (some ⟨g, o, none⟩) D.length c 64 hlt W
        have hbt2 := hbt.drop 64 hlt
        generalize (if c = 64 then some (⟨g, o, none⟩ : Addr) else (some (⟨g, o, none⟩ : Addr)).map (·.add 64)) = A2' at *
        have ha := fun (a : Option Addr) (c : Nat) (W : World) => run_arrayAt (P := Tryd.prog) (t := 123) Tryd.underlying123 a 64 c (by omega) W
        have hr8 : wr.rangeAt w.heap.size 0 (stl (blocks s L q)) := World.rangeAt_of_block hw0.eq 0 8
        have H1 := Lib.hid hc1
        have H2 := Lib.hid hc2
        clear hc1 hc2 hbt
        go_wp2
        refine wp_region_still_tail 6 (by kernel_rfl) (by kernel_rfl) ?_
        simp only [List.take_succ_cons, List.take_zero, List.drop_succ_cons, List.drop_zero]
        change wpStill _ _ wr.drew (fun a' => wpList _ _ _ _ a' wr.drew) _ _
        refine wpStill_step (fun K hK => ?_); go_simp; refine hK _ ?_; clear hK K
        refine wpStill_load_run rfl 117 _ rfl w.heap.size 0 rfl (stl (blocks s L q)) _ ((World.rangeAt_drew _ _ _ _).2 hr8) Tryd.underlying117 rfl (by kernel_rfl) ?_
        refine wpStill_step (fun K hK => ?_); go_simp; refine hK _ ?_; clear hK K
        refine wpStill_slice_run rfl 39 _ _ _ _ rfl _ (H1.out _) ?_
        refine wpStill_step (fun K hK => ?_); go_simp; refine hK _ ?_; clear hK K
        refine wpStill_load_run rfl 123 _ rfl g o rfl (m.map byt) _ ((World.rangeAt_drew _ _ _ _).2 hrange) Tryd.underlying123 rfl (by rw [List.length_map, hm64]; kernel_rfl) ?_
        refine wpStill_nil ?_
        clear H1 ha hr8 hrange
        have hnext : blocks s L (q + 1) = block (blocks s L q) m := by rw [blocks_succ, HM.out, HD.out]
        have hdrop : D.drop 64 = L.drop (64 * (q + 1)) := by rw [HD.out, List.drop_drop]; congr 1
        have hq1 : 64 * (q + 1) ≤ L.length := by have := hlt; rw [HD.out, List.length_drop] at this; omega
        rw [hdrop] at hbt2
        have HN := Lib.hid hnext
        clear hnext hdrop
        go_wp2_with fail
        refine (compress (blocks s L q) m hm64 wr.drew hK).mono ?_
        rintro e W1 ⟨rfl, hb1⟩
        rw [← HN.out]
        have hw0' := Whole.below (hw0.drew) hb1 hw0.lt
        have hw1' := Whole.below (hw1.drew) hb1 hw1.lt
        have hbt2' := hbt2.drew.below hb1 (Nat.le_refl _)
        have hbw := (hbel.drew).trans (hb1.mono hbel.size)
        have hK' : Consts W1 := Consts.below (w := wr.drew) hK (Nat.le_refl _) hb1
        have hs1 : w.heap.size + 1 < W1.heap.size := hw1'.lt
        clear hw0 hw1 hbt2 hbel hK hb1 HN hsz
        go_wp2_with (first
          | (with_reducible refine wpList_store_mid rfl 117 _ _ rfl w.heap.size 0 _ rfl rfl ?_ ?_ ?_ ?_)
          | ((with_reducible refine wpList_slice_run rfl 39 _ _ _ _ rfl (.slice A2' (D.length - 64) (c - 64)) ?_ ?_); (exact H2.out _)))
        · exact hw0'.there 0 8 (by simp)
        · exact HI8.out
        · simp [Value.oneCell']
        · have hn : WriteRel s L (.slice A1 r.length c1) ((n : Int) + (b.length : Int)) w (q + 1) (.slice A2' (D.length - 64) (c - 64)) (W1.setCells w.heap.size 0 (stl (blocks s L (q + 1)))) :=
            ⟨hq1, hbt2'.keep fun g' _ hg' => setCells_far _ _ _ _ _ hg'.1, hw0'.setH _, ⟨z, hz, (setCells_far _ _ _ _ _ (by omega)).trans hw1'⟩, hbw.trans (setCells_below _ (Nat.le_refl _) _ _ _),
              fun j hj => (World.cell?_of_block (w := W1) (a := ⟨1, j, none⟩) (setCells_far _ _ _ _ _ (by have := HKl.out; show 1 ≠ _; omega))).trans (hK' j hj)⟩
          have HX := Lib.hid hn
          clear hn hw0' hw1' hbt2' hbw hK'
          go_roundw
          case rel => exact ⟨q + 1, HX.out⟩
          case measure => simp [slen]; omega
      · have hq64 : q = L.length / 64 := by
          have := hlt; rw [HD.out, List.length_drop] at this; omega
        go_wp2_with fail
        refine (clone _ D _ wr hbt hDl).mono ?_
        rintro e W1 ⟨v', rfl, hv', hb1⟩
        have hv := hv'
        obtain ⟨A', c', rfl, -⟩ := hv'
        have hw0' := hw0.below hb1 hw0.lt
        have hw1' := hw1.below hb1 hw1.lt
        have hbw := hbel.trans (hb1.mono hbel.size)
        have c8 : W1.cell? ⟨w.heap.size, 8, none⟩ = some (.slice A1 r.length c1) := hw0'.cell 8
        have z8 := hw0'.frozen 8
        have hn : Whole (W1.setCell ⟨w.heap.size, 8, none⟩ (.slice A' D.length c')) w.heap.size 135 (hashv (blocks s L q) (.slice A' D.length c') ((n : Int) + (b.length : Int))) := hw0'.set 8 _
        have hw1'' := hw1'.far (a := ⟨w.heap.size, 8, none⟩) (by simp) (.slice A' D.length c')
        have hbt2 := (hv.mono (Q' := fun g => w.heap.size + 1 < g) (fun g _ hg => by have := hg; omega)).set (a := ⟨w.heap.size, 8, none⟩) (fun g hg => by have := hg; show g ≠ w.heap.size; omega) (.slice A' D.length c')
        have hbw2 := hbw.setCell (p := ⟨w.heap.size, 8, none⟩) (Nat.le_refl _) (.slice A' D.length c')
        have HW := Lib.hid hn
        have HW1 := Lib.hid hw1''
        clear hn hw1'' hw0 hw1 hbel hb1 hbt hv hw0' hw1' hbw hK
        have HQ := Lib.hid hq64
        clear hq64
        go_wp2_with (first
          | (with_reducible refine wpList_load_row rfl 135 _ rfl w.heap.size rfl _ _ _ _ HW.out.eq Tryd.underlying135 rfl (by kernel_rfl) ?_)
          | (with_reducible refine wpList_store_row rfl 135 _ _ rfl (w.heap.size + 1) _ rfl rfl _ _ HW1.out.eq ?_ ?_ ?_ ?_))
        · kernel_rfl
        · exact hz
        · simp [Value.oneCell']
        · have h3 := HW1.out.setRow (hashv (blocks s L q) (.slice A' D.length c') ((n : Int) + (b.length : Int)))
          have hb3 := hbt2.setRow (b := w.heap.size + 1) (fun g hg => by have := hg; omega) (hashv (blocks s L q) (.slice A' D.length c') ((n : Int) + (b.length : Int)))
          have hL := HL.out
          have hD := HD.out
          have hQ := HQ.out
          subst hD
          subst hQ
          subst hL
          refine bodyPost_ret (results_cell_row Tryd.results84 _ _ (w.heap.size + 1) _ _ _ _ rfl h3 Tryd.underlying135 rfl (by kernel_rfl)) rfl ⟨_, rfl, hb3.mono (fun g _ hg => by have := hg; omega), below_setRow hbw2 (by omega) _⟩
end Go.Proofs.YteekdhcffiaaaaaDoor
namespace Go.Proofs.YteekdhcffiaaaaaDoor
open Go Go.RowKit Sh Leaf

set_option maxRecDepth 20000 in
set_option maxHeartbeats 1000000 in
theorem eightB (n : Nat) (w : World) : Calls Tryd.prog 33 #[.int .u64 (n : Int)] w fun e w' => ∃ v', e = .returned v' ∧ Bytes w' (fun g => w.heap.size ≤ g) v' (beBytes n 8) ∧ Below w.heap.size w w' := by
  go_enter Tryd.func33, Tryd.ntmps33
  go_wp2
  go_loopw [3, 4] (fun b i wr => ∃ k : Nat, k ≤ 8 ∧ i = .int .i64 (56 - 8 * (k : Int)) ∧ wr.ownsRow w.heap.size 5 1 b ((beBytes n 8).take k).length (((beBytes n 8).take k).map byt) ∧ Below w.heap.size w wr) (fun _ i _ => (intOf i + 8).toNat)
  case atStart => exact ⟨0, by omega, rfl, World.ownsRow_nil _ _ _ _, Below.refl _ _⟩
  case round =>
    obtain ⟨k, hk, rfl, hown, hb⟩ := hrel
    by_cases hlt : k < 8
    · have hl : ((beBytes n 8).take k).length ≤ 8 := by simp [List.length_take, beBytes_length]; omega
      have hbs := hb.size
      have hz := be_byte n (7 - k)
      rw [show 8 * (7 - k) = 56 - 8 * k by omega] at hz
      have i0 : (0 : Int) ≤ 56 - 8 * (k : Int) := by omega
      have HZ := Lib.hid hz
      clear hz
      go_wp2_with (at_builtin; go_must (refine wpList_append_bytes rfl _ _ rfl w.heap.size _ ((beBytes n 8).take k) rfl (hown.alloc _) _ (.slice (some ⟨wr.heap.size, 0, none⟩) 1 1) _ rfl (bytes_one wr _ _ HZ.out) (by simp only [List.length_singleton]; omega) (by simp; omega) ?_; intro v' w' h1 h2))
      go_roundw
      case rel =>
        refine ⟨k + 1, by omega, by go_num, ?_, (hb.alloc (by omega) _).trans h2⟩
        rw [beBytes_take_succ n 8 k hlt]; exact h1
      case measure => simp [intOf]; omega
    · have ek : (beBytes n 8).take k = beBytes n 8 := List.take_of_length_le (by rw [beBytes_length]; omega)
      rw [ek] at hown
      clear ek
      go_wp2
      go_ret
      exact ⟨_, rfl, Bytes.of_own hown, hb⟩

def part (l : List B8) (z : Nat) : List B8 := l ++ 128 :: List.replicate z 0
theorem part_length (l : List B8) (z : Nat) : (part l z).length = l.length + 1 + z := by simp [part]; omega
theorem part_succ (l : List B8) (z : Nat) : part l (z + 1) = part l z ++ [0] := by
  unfold part
  rw [List.replicate_succ', List.append_assoc, List.cons_append]
theorem part_pad (l : List B8) : part l ((119 - l.length % 64) % 64) ++ beBytes (l.length * 8) 8 = l ++ pad l.length := by simp [part, pad]
def RefLoop (w : World) (M : List B8) (vm : Value) (gh q : Nat) (wr : World) : Prop :=
  64 * q ≤ M.length ∧ Bytes wr (fun g => g ≠ gh ∧ g ≠ w.heap.size) vm M ∧ Whole wr gh 117 (wrow 8 (blocks init M q).at) ∧ Whole wr w.heap.size 28 (Array.replicate 32 (.int .u8 0)) ∧ Below w.heap.size w wr
def RefOut (w : World) (s : St) (D : List B8) (gh go k : Nat) (wr : World) : Prop :=
  Whole wr gh 117 (wrow 8 s.at) ∧ (∃ f, Whole wr go 28 (brow 32 f) ∧ ∀ j, j < k → f j = D.getD j 0) ∧ Whole wr w.heap.size 28 (Array.replicate 32 (.int .u8 0)) ∧ Below w.heap.size w wr
theorem RefOut.step {w : World} {s : St} {D : List B8} {gh go k : Nat} {wr : World} {f : Nat → B8} (hh : Whole wr gh 117 (wrow 8 s.at)) (hf : Whole wr go 28 (brow 32 f)) (hfk : ∀ j, j < k → f j = D.getD j 0)
    (hkw : Whole wr w.heap.size 28 (Array.replicate 32 (.int .u8 0))) (hkb : Below w.heap.size w wr) (hk : k < 32) (h1 : gh < go) (h2 : w.heap.size < go) (hd : D.getD k 0 = BitVec.ofNat 8 ((s.at (k / 4)).toNat / 256 ^ (3 - k % 4))) :
    RefOut w s D gh go (k + 1) (wr.setCell ⟨go, k, none⟩ (.int .u8 (iv (s.at (k / 4)) / 2 ^ (24 - 8 * (k % 4)) % 256))) := by
  have e : iv (s.at (k / 4)) / 2 ^ (24 - 8 * (k % 4)) % 256 = bv (D.getD k 0) := by
    rw [hd, ← be_byte, show 8 * (3 - k % 4) = 24 - 8 * (k % 4) by omega]
    have : iv (s.at (k / 4)) = (((s.at (k / 4)).toNat : Nat) : Int) := by unfold iv; rfl
    rw [this]
  rw [e]
  refine ⟨hh.far (by show gh ≠ go; omega) _, ⟨_, by rw [← brow_set 32 f k (D.getD k 0) hk]; exact hf.set k _, fun j hj => ?_⟩, hkw.far (by show w.heap.size ≠ go; omega) _, hkb.setCell (by show w.heap.size ≤ go; omega) _⟩
  by_cases hjk : j = k
  · subst hjk; simp
  · simp only [hjk, if_false]; exact hfk j (by omega)

set_option maxRecDepth 100000 in
set_option maxHeartbeats 4000000 in
theorem ref_sha (v : Value) (l : List B8) (Q : Nat → Prop) (w : World) (hr : Bytes w Q v l) (hl : l.length ≤ 1000000) :
    Calls Tryd.prog 51 #[v] w fun e w' => e = .returned (.agg ((sha l).map byt).toArray) ∧ Below w.heap.size w w' := by
  obtain ⟨A, c, rfl, -⟩ := id hr
  go_enter Tryd.func51, Tryd.ntmps51
  go_wp2_with (first
    | (at_builtin; refine wpList_append_bytes rfl (.tmp 8) (.tmp 9) rfl (w.heap.size + 1) (.slice (some ⟨w.heap.size + 1, 0, none⟩) 0 0) [] rfl (own_lit_at _ (w.heap.size + 1) (w.heap.size + 1) [] (by simp) (Nat.le_refl _) (by simp)) Q _ l rfl ((hr.alloc _).alloc _) (by simp; omega) (by simp) ?_; intro v1 w1 ho1 hb1; rw [List.nil_append] at ho1; have hs1 := hb1.size; (try simp at hs1))
    | (at_builtin; refine wpList_append_bytes rfl (.tmp 10) (.tmp 11) rfl (w.heap.size + 1) _ l rfl (ho1.alloc _) _ (.slice (some ⟨w1.heap.size, 0, none⟩) 1 1) [128] rfl (bytes_one w1 128 128 bv_128.symm) (by simp; omega) (by simp; omega) ?_; intro v2 w2 ho2 hb2))
  have k1 : Whole w1 w.heap.size 28 (Array.replicate 32 (.int .u8 0)) := Whole.below ((Whole.here _ _ _).alloc _) hb1 (by omega)
  have kb1 : Below w.heap.size w w1 := (((Below.refl _ _).alloc (Nat.le_refl _) _).alloc (by simp) _).trans (hb1.mono (by omega))
  have k2 : Whole w2 w.heap.size 28 (Array.replicate 32 (.int .u8 0)) := Whole.below (k1.alloc _) hb2 (by omega)
  have kb2 : Below w.heap.size w w2 := (kb1.alloc (by omega) _).trans (hb2.mono (by omega))
  have hs2 : w.heap.size + 1 ≤ w2.heap.size := Nat.le_trans (by simp; omega) hb2.size
  clear hb1 hb2 ho1 k1 kb1 hs1
  go_loopw [3] (fun vm wr => ∃ z : Nat, z ≤ (119 - l.length % 64) % 64 ∧ wr.ownsRow (w.heap.size + 1) 5 1 vm (part l z).length ((part l z).map byt) ∧ Below (w.heap.size + 1) w2 wr) (fun vm _ => l.length + 100 - slen vm)
  case atStart => exact ⟨0, by omega, ho2, Below.refl _ _⟩
  case round =>
    clear ho2
    obtain ⟨z, hz, hown, hb⟩ := hrel
    have hpl := part_length l z
    have hbs := hb.size
    by_cases hlt : z < (119 - l.length % 64) % 64
    · have ht : ¬ ((part l z).length : Int) % 64 = 56 := by omega
      have hp1 : (part l z).length ≤ 2000000 := by omega
      have hp2 : (part l z).length < l.length + 100 := by omega
      have hb0 := Bytes.of_own hown
      obtain ⟨A3, c3, rfl, -⟩ := id hb0
      clear hb0 hpl
      go_wp2_with (at_builtin; go_must (refine wpList_append_bytes rfl _ _ rfl (w.heap.size + 1) _ (part l z) rfl (hown.alloc _) _ (.slice (some ⟨wr.heap.size, 0, none⟩) 1 1) [0] rfl (bytes_one wr 0 0 bv_zero.symm) (by simp only [List.length_singleton]; omega) (by simp; omega) ?_; intro v3 w3 ho3 hb3))
      rw [← part_succ] at ho3
      have hl3 := part_length l (z + 1)
      have hb4 := Bytes.of_own ho3
      obtain ⟨A4, c4, rfl, -⟩ := id hb4
      have HL3 := Lib.hid hl3
      have HP := Lib.hid (part_length l z)
      clear hb4 hl3
      go_roundw
      case rel => exact ⟨z + 1, by omega, ho3, (hb.alloc (by omega) _).trans hb3⟩
      case measure => simp only [slen]; rw [HL3.out, HP.out]; omega
    · have hzz : z = (119 - l.length % 64) % 64 := by omega
      have ht : ((part l z).length : Int) % 64 = 56 := by omega
      have hb0 := Bytes.of_own hown
      obtain ⟨A3, c3, rfl, -⟩ := id hb0
      have HZZ := Lib.hid hzz
      have h8 := eightB (l.length * 8)
      rw [show ((l.length * 8 : Nat) : Int) = (l.length : Int) * 8 by omega] at h8
      have H8 := Lib.hid h8
      have hpl2 : (part l z).length ≤ 2000000 := by omega
      have hkw := k2.below hb (by omega)
      have hkb := kb2.trans (hb.mono (by omega))
      have hsr : w.heap.size + 1 ≤ wr.heap.size := by omega
      clear h8 hzz hb0 hpl hb hbs k2 kb2 hs2 hr
      go_wp2_with fail
      refine (H8.out wr).mono ?_
      rintro e w3 ⟨v8, rfl, hv8, hb3⟩
      have hown3 := own_below hown hb3 (Nat.le_refl _)
      have hkw3 := hkw.below hb3 hkw.lt
      have hkb3 := hkb.trans (hb3.mono hkb.size)
      have hs3 : w.heap.size + 1 ≤ w3.heap.size := Nat.le_trans hsr hb3.size
      clear hown hkw hkb hb3 H8
      go_wp2_with (at_builtin; go_must (refine wpList_append_bytes rfl _ _ rfl (w.heap.size + 1) _ (part l z) rfl hown3 _ v8 (beBytes (l.length * 8) 8) rfl hv8 (by rw [beBytes_length]; omega) hs3 ?_; intro v4 w4 ho4 hb4))
      obtain ⟨M, hM⟩ : ∃ M, M = l ++ pad l.length := ⟨_, rfl⟩
      have eM : part l z ++ beBytes (l.length * 8) 8 = M := by rw [hM, HZZ.out, part_pad]
      rw [eM] at ho4
      have hM64 : M.length % 64 = 0 := by rw [hM, List.length_append, pad_length]; omega
      have hMl : M.length ≤ 2000000 := by rw [hM, List.length_append, pad_length]; omega
      have HM := Lib.hid hM
      have hm4 := Bytes.of_own ho4
      have hkw4 := hkw3.below hb4 (by omega)
      have hkb4 := hkb3.trans (hb4.mono (by omega))
      have hs4 : w.heap.size + 1 ≤ w4.heap.size := Nat.le_trans hs3 hb4.size
      obtain ⟨A5, c5, rfl, -⟩ := id hm4
      have HM64 := Lib.hid hM64
      clear hM eM ho4 hb4 hkw3 hkb3 hs3 hv8 hown3 ht hpl2 HZZ hM64
      refine (ref_initial w4).mono ?_
      rintro e w5 ⟨rfl, hb5⟩
      have hm5 : Bytes w5 (fun g => g ≠ w5.heap.size ∧ g ≠ w.heap.size) (.slice A5 M.length c5) M := by
        have h1 : Bytes w4 (fun g => w.heap.size < g ∧ g < w4.heap.size) (.slice A5 M.length c5) M := hm4.mono fun g hg h => ⟨h, hg⟩
        exact (h1.below hb5 (Nat.le_refl _)).mono fun g hg h => ⟨by omega, by have := h.1; omega⟩
      have hkw5 := hkw4.below hb5 hkw4.lt
      have hkb5 := hkb4.trans (hb5.mono hkb4.size)
      have hs5 : w.heap.size + 1 ≤ w5.heap.size := Nat.le_trans hs4 hb5.size
      clear hm4 hkw4 hkb4 hb5 hs4
      go_wp2_with (first
        | (with_reducible refine wpList_store_row rfl 117 _ _ rfl w5.heap.size _ rfl rfl _ _ ((Whole.at_ _ _ _ _ rfl).eq) ?_ ?_ ?_ ?_))
      · kernel_rfl
      · rfl
      · simp [Value.oneCell']
      rw [World.setRow_alloc_new]
      have HI8 : Hid ((Tryd.prog.info? 117).map (·.size) = some 8) := Lib.hid (by kernel_rfl)
      have hrel0 : RefLoop w M (.slice A5 M.length c5) w5.heap.size 0 (w5.alloc (.cells (stv init) 117)) :=
        ⟨by omega, hm5.alloc _, by rw [stv_wrow]; exact Whole.here _ _ _, hkw5.alloc _, hkb5.alloc (by omega) _⟩
      have HR0 := Lib.hid hrel0
      clear hrel0 hm5 hkw5 hkb5
      go_wp2
      go_loopw [5] (fun i wr => ∃ q : Nat, i = .int .i64 (64 * (q : Int)) ∧ RefLoop w M (.slice A5 M.length c5) w5.heap.size q wr) (fun i _ => M.length - (intOf i).toNat)
      case atStart => exact ⟨0, rfl, HR0.out⟩
      case round =>
        clear HR0
        obtain ⟨q, rfl, hq, hm, hh, hkw, hkb⟩ := hrel
        by_cases hlt : 64 * q < M.length
        · have hq1 : 64 * q + 64 ≤ M.length := by have := HM64.out; omega
          obtain ⟨g, o, c', hsl, hQ, hcells⟩ := bytes_mid hm q hq1
          have hr8 : wr.rangeAt w5.heap.size 0 (stl (blocks init M q)) := by
            have := World.rangeAt_of_block hh.eq 0 8
            rw [← stv_wrow] at this
            exact this
          have HSL := Lib.hid hsl
          have HC := Lib.hid hcells
          clear hsl hcells
          go_wp2
          refine wp_region_still_tail 6 (by kernel_rfl) (by kernel_rfl) ?_
          simp only [List.take_succ_cons, List.take_zero, List.drop_succ_cons, List.drop_zero]
          change wpStill _ _ wr.drew (fun a' => wpList _ _ _ _ a' wr.drew) _ _
          refine wpStill_load_run rfl 117 _ rfl w5.heap.size 0 rfl (stl (blocks init M q)) _ ((World.rangeAt_drew _ _ _ _).2 hr8) Tryd.underlying117 rfl (by kernel_rfl) ?_
          refine wpStill_step (fun K hK => ?_); go_simp; refine hK _ ?_; clear hK K
          refine wpStill_step (fun K hK => ?_); go_simp; refine hK _ ?_; clear hK K
          refine wpStill_step (fun K hK => ?_); go_simp; refine hK _ ?_; clear hK K
          refine wpStill_step (fun K hK => ?_); go_simp; (try go_bits); refine hK _ ?_; clear hK K
          refine wpStill_slice_run rfl 39 _ _ _ _ rfl _ (HSL.out _) ?_
          refine wpStill_nil ?_
          clear hr8 HSL
          go_wp2_with fail
          refine (ref_block (blocks init M q) ((M.drop (64 * q)).take 64) g o c' wr.drew HC.out).mono ?_
          rintro e w6 ⟨rfl, hb6⟩
          rw [← blocks_succ]
          have hm6 := (hm.drew).below hb6 (Nat.le_refl _)
          have hh6 := Whole.below hh.drew hb6 hh.lt
          have hkw6 := Whole.below hkw.drew hb6 hkw.lt
          have hkb6 := (hkb.drew).trans (hb6.mono hkb.size)
          clear hm hh hkw hkb hb6 HC hQ
          go_wp2_with (with_reducible refine wpList_store_row rfl 117 _ _ rfl w5.heap.size _ rfl rfl _ _ hh6.eq ?_ ?_ ?_ ?_)
          · exact HI8.out
          · simp [wrow_size]
          · simp [Value.oneCell']
          · have hn : RefLoop w M (.slice A5 M.length c5) w5.heap.size (q + 1) (w6.setRow w5.heap.size (stv (blocks init M (q + 1)))) :=
              ⟨by omega, hm6.setRow (fun g hg => hg.1) _, by rw [stv_wrow]; exact hh6.setRow _, hkw6.setRow_far (by omega) _, below_setRow hkb6 (by omega) _⟩
            have HN := Lib.hid hn
            clear hn hm6 hh6 hkw6 hkb6
            go_roundw
            case rel => exact ⟨q + 1, by go_num, HN.out⟩
            case measure => simp [intOf]; omega
        · have hqq : q = M.length / 64 := by have := HM64.out; omega
          have HQ := Lib.hid hqq
          clear hqq
          obtain ⟨D, hD⟩ : ∃ D, D = digest (blocks init M q) := ⟨_, rfl⟩
          have hDl : D.length = 32 := by rw [hD]; exact digest_length _
          have hDg : ∀ j, j < 32 → D.getD j 0 = BitVec.ofNat 8 (((blocks init M q).at (j / 4)).toNat / 256 ^ (3 - j % 4)) := fun j hj => by rw [hD]; exact digest_get _ j hj
          have HD := Lib.hid hD
          have HDl := Lib.hid hDl
          have HDg := Lib.hid hDg
          clear hD hDl hDg hm
          have hsx : w.heap.size < wr.heap.size := hkw.lt
          have hrel0 : RefOut w (blocks init M q) D w5.heap.size wr.heap.size 0 (wr.alloc (.cells (Array.replicate 32 (.int .u8 0)) 28)) :=
            ⟨hh.alloc _, ⟨fun _ => 0, by rw [brow_zero]; exact Whole.here _ _ _, fun j hj => by omega⟩, hkw.alloc _, hkb.alloc (by omega) _⟩
          have HR0 := Lib.hid hrel0
          have hgh := hh.lt
          clear hrel0 hh hkw hkb
          go_wp2
          go_loopw [7] (fun i wx => ∃ k : Nat, k ≤ 32 ∧ i = .int .i64 k ∧ RefOut w (blocks init M q) D w5.heap.size wr.heap.size k wx) (fun i _ => 32 - (intOf i).toNat)
          case atStart => exact ⟨0, by omega, rfl, HR0.out⟩
          case round =>
            clear HR0
            obtain ⟨k, hk, rfl, hh, ⟨f, hf, hfk⟩, hkw, hkb⟩ := hrel
            by_cases hlt : k < 32
            · have a1 := (hh.cell (k / 4)).trans (wrow_get 8 _ (k / 4) (by omega))
              have a2 := (hf.cell k).trans (brow_get 32 _ k hlt)
              have a3 := hf.frozen k
              have hn := RefOut.step hh hf hfk hkw hkb hlt (by omega) (by omega) (HDg.out k hlt)
              have HN := Lib.hid hn
              clear hn
              go_wp2
              go_roundw
              case rel => exact ⟨k + 1, by omega, by go_num, HN.out⟩
              case measure => simp [intOf]; omega
            · have ef : brow 32 f = (D.map byt).toArray := by
                rw [← brow_list, HDl.out]
                exact brow_congr fun j hj => hfk j (by omega)
              rw [ef] at hf
              have HZ : Hid ((Tryd.prog.info? 28).map (·.size) = some 32) := Lib.hid (by kernel_rfl)
              clear hfk ef hh
              go_wp2_with (first
                | (with_reducible refine wpList_load_row rfl 28 _ rfl _ rfl _ _ _ _ hf.eq Tryd.underlying28 rfl (by rw [HZ.out]; simp [HDl.out]) ?_)
                | (with_reducible refine wpList_store_row rfl 28 _ _ rfl w.heap.size _ rfl rfl _ _ hkw.eq ?_ ?_ ?_ ?_))
              · rw [HZ.out]; simp [HDl.out]
              · simp [HDl.out]
              · exact all_oneCell_toArray (byt_one _)
              · have h3 := hkw.setRow (D.map byt).toArray
                have eD : D = sha l := by rw [HD.out, HQ.out, HM.out]; rfl
                have hs9 : (Tryd.prog.info? 28).map (·.size) = some (D.map byt).toArray.size := by rw [HZ.out]; simp [HDl.out]
                refine bodyPost_ret (results_cell_row Tryd.results51 _ _ w.heap.size _ _ _ _ rfl h3 Tryd.underlying28 rfl hs9) rfl ⟨by rw [eD], below_setRow hkb (by omega) _⟩
end Go.Proofs.YteekdhcffiaaaaaDoor
