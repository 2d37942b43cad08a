/-
  ShaSum
  ShaOf
  HmacSpec
  HmacPurp
  HmacExt
  HmacDig
  HmacOf
  HmacDer
  HmacDeP
  HmacEqual
-/
import Derived.Deep.RegionHeld3
import Derived.Deep.RegionWith
import Derived.Test.YteekdhcffiaaaaaDoorPk7
import Derived.Test.YteekdhcffiaaaaaDoorPk0
import Derived.Test.YteekdhcffiaaaaaDoorPk6
import Derived.BigQuiet
import Derived.Deep.QuietTactic
import Derived.Test.YteekdhcffiaaaaaDoorPk3
namespace Go.Proofs.YteekdhcffiaaaaaDoor
open Go Go.RowKit Sh Leaf

def Tables (w : World) : Prop := Consts w ∧ ∀ j, j < 8 → w.cell? ⟨0, j, none⟩ = some (u (init.at j))
theorem Tables.lt {w : World} (h : Tables w) : 0 < w.heap.size := block_lt_of_cell (h.2 0 (by omega))
theorem Tables.below {B : Nat} {w w' : World} (h : Tables w) (hB : w.heap.size ≤ B) (hb : Below B w w') : Tables w' :=
  ⟨h.1.below hB hb, fun j hj => (hb.cell (p := ⟨0, j, none⟩) (by have := h.lt; show 0 < B; omega)).trans (h.2 j hj)⟩
theorem Tables.range {w : World} (h : Tables w) : w.rangeAt 0 0 (stl init) := by
  intro j v hv
  have hj : j < 8 := by have := (List.getElem?_eq_some_iff.1 hv).1; simpa using this
  rw [Nat.zero_add, h.2 j hj]
  rw [← hv]
  have : (stl init) = (List.range 8).map fun j => u (init.at j) := rfl
  rw [this]
  simp [hj]

set_option maxRecDepth 20000 in
theorem new (w : World) (hT : Tables w) : Calls Tryd.prog 85 #[] w fun e w' => e = .returned (.agg (hashv init (.slice none 0 0) 0)) ∧ Below w.heap.size w w' := by
  have hr : (w.alloc (.cells #[.int .u32 0, .int .u32 0, .int .u32 0, .int .u32 0, .int .u32 0, .int .u32 0, .int .u32 0, .int .u32 0, .slice none 0 0, .int .i64 0] 135)).rangeAt 0 0 (stl init) := World.rangeAt_alloc hT.range _
  go_enter Tryd.func85, Tryd.ntmps85
  go_wp2_with (first
    | (with_reducible refine wpList_load_mid rfl 117 _ rfl 0 0 rfl _ _ hr Tryd.underlying117 rfl (by kernel_rfl) ?_)
    | (with_reducible refine wpList_build_as rfl 135 _ rfl (hashv init (.slice none 0 0) 0) (by kernel_rfl) ?_)
    | (with_reducible refine wpList_store_row rfl 135 _ _ rfl w.heap.size _ rfl rfl _ _ (Whole.here _ _ _).eq ?_ ?_ ?_ ?_))
  · kernel_rfl
  · rfl
  · simp [Value.oneCell']
  · rw [World.setRow_alloc_new]
    refine bodyPost_ret (results_cell_row Tryd.results85 _ _ w.heap.size _ _ _ _ rfl (Whole.here _ _ _).eq Tryd.underlying135 rfl (by kernel_rfl)) rfl ⟨rfl, (Below.refl _ _).alloc (Nat.le_refl _) _⟩

theorem appendWord (v : Value) (xs : List B8) (x : W) (base : Nat) (w : World) (hown : w.ownsRow base 5 1 v xs.length (xs.map byt)) (hbase : base ≤ w.heap.size) (hx : xs.length ≤ 1000) :
    Calls Tryd.prog 88 #[v, .int .u64 (iv x), .int .i64 4] w fun e w' => ∃ v', e = .returned v' ∧ w'.ownsRow base 5 1 v' (xs ++ beBytes x.toNat 4).length ((xs ++ beBytes x.toNat 4).map byt) ∧ Below base w w' := by
  have e : iv x = ((x.toNat : Nat) : Int) := by unfold iv; rfl
  rw [e]
  exact (appendNumber v xs x.toNat 4 base w hown hbase (by omega) (by omega)).mono fun e w' ⟨v', h1, h2, h3, _⟩ => ⟨v', h1, h2, h3⟩

theorem write_last (s : St) (vr vp : Value) (r : List B8) (n : Nat) (Qr Qp : Nat → Prop) (w : World) (sf : St) (hsf : sf = blocks s (r ++ pad n) ((r ++ pad n).length / 64)) (hr : Bytes w Qr vr r) (hp : Bytes w Qp vp (pad n)) (hK : Consts w) (hl : r.length ≤ 1000000) (hn : n ≤ 1000000) :
    Calls Tryd.prog 84 #[.agg (hashv s vr (n : Int)), vp] w fun e w' => ∃ A l c m, e = .returned (.agg (hashv sf (.slice A l c) m)) ∧ Below w.heap.size w w' := by
  subst hsf
  refine (write s vr vp r (pad n) n Qr Qp w hr hp hK (by have := pad_le n; omega) (by omega)).mono ?_
  rintro e w' ⟨v', rfl, hv, hb⟩
  obtain ⟨A, c, rfl, -⟩ := hv
  exact ⟨A, _, c, _, rfl, hb⟩

set_option maxRecDepth 20000 in
set_option maxHeartbeats 4000000 in
theorem sum (s : St) (vr : Value) (r : List B8) (n : Nat) (Q : Nat → Prop) (w : World) (hr : Bytes w Q vr r) (hK : Consts w) (hl : r.length ≤ 1000000) (hn : n ≤ 1000000) :
    Calls Tryd.prog 83 #[.agg (hashv s vr (n : Int))] w fun e w' => e = .returned (.agg ((digest (blocks s (r ++ pad n) ((r ++ pad n).length / 64))).map byt).toArray) ∧ Below w.heap.size w w' := by
  have hr' := hr
  obtain ⟨A1, c1, rfl, -⟩ := hr'
  go_enter Tryd.func83, Tryd.ntmps83
  obtain ⟨sf, hsf⟩ : ∃ sf, sf = blocks s (r ++ pad n) ((r ++ pad n).length / 64) := ⟨_, rfl⟩
  have HSF := Lib.hid hsf
  clear hsf
  have hi := fun (j : Nat) (hj : j < 8) (W : World) => run_index_agg (P := Tryd.prog) (t := 117) (e := 116) (n := 8) Tryd.underlying117 Tryd.underlying116 rfl (by kernel_rfl) (stv sf) j (u (sf.at j)) hj (by rw [stv_wrow]; exact wrow_get 8 _ j hj) W
  have HI := Lib.hid hi
  clear hi
  go_wp2
  have hW0 : ∃ W0, W0 = ((w.alloc (.cells (hashv s (.slice A1 r.length c1) (n : Int)) 135)).alloc (.cells (Array.replicate 32 (.int .u8 0)) 28)) := ⟨_, rfl⟩
  obtain ⟨W0, hW0⟩ := hW0
  have k0 : Whole W0 w.heap.size 135 (hashv s (.slice A1 r.length c1) (n : Int)) := by rw [hW0]; exact (Whole.here _ _ _).alloc _
  have k1 : Whole W0 (w.heap.size + 1) 28 (Array.replicate 32 (.int .u8 0)) := by rw [hW0]; exact Whole.at_ _ _ _ _ (by simp)
  have kb : Below w.heap.size w W0 := by rw [hW0]; exact ((Below.refl _ _).alloc (Nat.le_refl _) _).alloc (by simp) _
  have kr : Bytes W0 Q (.slice A1 r.length c1) r := by rw [hW0]; exact (hr.alloc _).alloc _
  have kK : Consts W0 := hK.below (Nat.le_refl _) kb
  have hE : ((w.alloc (.cells (hashv s (.slice A1 r.length c1) (n : Int)) 135)).alloc (.cells #[.int .u8 0, .int .u8 0, .int .u8 0, .int .u8 0, .int .u8 0, .int .u8 0, .int .u8 0, .int .u8 0, .int .u8 0, .int .u8 0, .int .u8 0, .int .u8 0, .int .u8 0, .int .u8 0, .int .u8 0, .int .u8 0, .int .u8 0, .int .u8 0, .int .u8 0, .int .u8 0, .int .u8 0, .int .u8 0, .int .u8 0, .int .u8 0, .int .u8 0, .int .u8 0, .int .u8 0, .int .u8 0, .int .u8 0, .int .u8 0, .int .u8 0, .int .u8 0] 28)) = W0 := hW0.symm
  rw [hE]
  have q0 : w.heap.size < W0.heap.size := k0.lt
  have a0 : W0.cell? ⟨w.heap.size, 0, none⟩ = some (u s.a) := k0.cell 0
  have a1 : W0.cell? ⟨w.heap.size, 1, none⟩ = some (u s.b) := k0.cell 1
  have a2 : W0.cell? ⟨w.heap.size, 2, none⟩ = some (u s.c) := k0.cell 2
  have a3 : W0.cell? ⟨w.heap.size, 3, none⟩ = some (u s.d) := k0.cell 3
  have a4 : W0.cell? ⟨w.heap.size, 4, none⟩ = some (u s.e) := k0.cell 4
  have a5 : W0.cell? ⟨w.heap.size, 5, none⟩ = some (u s.f) := k0.cell 5
  have a6 : W0.cell? ⟨w.heap.size, 6, none⟩ = some (u s.g) := k0.cell 6
  have a7 : W0.cell? ⟨w.heap.size, 7, none⟩ = some (u s.h) := k0.cell 7
  have a8 : W0.cell? ⟨w.heap.size, 8, none⟩ = some (.slice A1 r.length c1) := k0.cell 8
  have a9 : W0.cell? ⟨w.heap.size, 9, none⟩ = some (.int .i64 (n : Int)) := k0.cell 9
  clear hE hW0 hr hK
  have KB := Lib.hid kb
  have K0 := Lib.hid k0
  have K1 := Lib.hid k1
  have KR := Lib.hid kr
  have KK := Lib.hid kK
  clear kb k0 k1 kr kK
  go_region_held3 (fun w' => ∀ b o, b < W0.heap.size → w'.cell? ⟨b, o, none⟩ = W0.cell? ⟨b, o, none⟩)
    ((intro b o hb; refine Below.cell (B := W0.heap.size) (p := ⟨b, o, none⟩) ?_ hb; go_grown; done))
    (first
      | (go_at_call 87; refine (padding n (by omega) _).mono ?_; rintro e w1 ⟨vp, rfl, hp, hb1⟩; obtain ⟨hc1, hf1⟩ := bcell hb1; have hbw1 : Below W0.heap.size W0 w1 := (by first | exact ((Below.refl _ _).drew).trans hb1 | exact (((Below.refl _ _).alloc (Nat.le_refl _) _).drew).trans (hb1.mono (by simp))); have hs1 : W0.heap.size ≤ w1.heap.size := hbw1.size; have ht1 := hb1.size; (try simp at ht1); (try have ht4 : W0.heap.size < w1.heap.size := (by omega)))
      | (go_at_call 84; go_must (refine (write_last s (.slice A1 r.length c1) vp r n Q _ _ sf HSF.out (by first | exact KR.out.below hbw1 (Nat.le_refl _) | exact (KR.out.below hbw1 (Nat.le_refl _)).alloc _) (by first | exact hp | exact hp.alloc _) (by first | exact KK.out.below (Nat.le_refl _) hbw1 | exact KK.out.below (Nat.le_refl _) (hbw1.alloc hbw1.size _)) hl hn).mono ?_); rintro e w2 ⟨A2, l2, c2, m2, rfl, hb2⟩; obtain ⟨hc2, hf2⟩ := bcell hb2; have hbw2 : Below W0.heap.size W0 w2 := (by first | exact hbw1.trans (hb2.mono hbw1.size) | exact (hbw1.alloc hbw1.size _).trans (hb2.mono (by have := hbw1.size; simp; omega))); have hs2 : W0.heap.size ≤ w2.heap.size := hbw2.size; have ht2 := hb2.size; (try simp at ht2); have ht3 : w1.heap.size ≤ w2.heap.size := (by omega)))
  all_goals
    clear hp hb1 hb2 a0 a1 a2 a3 a4 a5 a6 a7 a8 a9
    go_wp2
    clear hc1 hf1 hc2 hf2
    go_loopw [4, 14] (fun vd vi wr => ∃ k : Nat, k ≤ 8 ∧ vi = .int .i64 k ∧ wr.ownsRow W0.heap.size 5 1 vd (dig sf k).length ((dig sf k).map byt) ∧ Below W0.heap.size W0 wr) (fun _ i _ => 8 - (intOf i).toNat)
    case atStart => exact ⟨0, by omega, rfl, World.ownsRow_nil _ _ _ _, by go_grown⟩
    case round =>
      obtain ⟨k, hk, rfl, hown, hbr⟩ := hrel
      clear hbw1 hs1 ht1 hbw2 hs2 ht2 ht3
      by_cases hlt : k < 8
      · have i1 := HI.out k hlt
        have hn0 := iv_nonneg (sf.at k)
        have hn1 := iv_le (sf.at k)
        have hdl := dig_length sf k hk
        have hbs := hbr.size
        go_wp2_with fail
        refine (appendWord _ (dig sf k) (sf.at k) W0.heap.size _ hown hbs (by omega)).mono ?_
        rintro e w3 ⟨v3, rfl, ho3, hb3⟩
        rw [← dig_succ sf k hlt] at ho3
        clear hdl i1 hown
        go_wp2
        go_roundw
        case rel => exact ⟨k + 1, by omega, by go_num, ho3, hbr.trans hb3⟩
        case measure => simp [intOf]; omega
      · have hk8 : dig sf k = digest sf := by rw [show k = 8 by omega]; rfl
        rw [hk8] at hown
        have hdl := digest_length sf
        have hb0 := Bytes.of_own hown
        obtain ⟨A3, c3, rfl, -⟩ := id hb0
        obtain ⟨g3, o3, rfl, _, hrg⟩ := Bytes.range hb0 (by omega)
        rw [hdl]
        have ha := fun (a : Option Addr) (c : Nat) (W : World) => run_arrayAt (P := Tryd.prog) (t := 28) Tryd.underlying28 a 32 c (by omega) W
        have k1 : Whole wr (w.heap.size + 1) 28 (Array.replicate 32 (.int .u8 0)) := K1.out.below hbr K1.out.lt
        have HZ : Hid ((Tryd.prog.info? 28).map (·.size) = some 32) := Lib.hid (by kernel_rfl)
        have hbw := KB.out.trans (hbr.mono KB.out.size)
        have HL := Lib.hid hdl
        clear hown hb0 hk8 hdl
        go_wp2_with (first
          | (with_reducible refine wpList_load_mid rfl 28 _ rfl g3 o3 rfl _ _ hrg Tryd.underlying28 rfl (by rw [List.length_map, HL.out]; kernel_rfl) ?_)
          | (with_reducible refine wpList_store_row rfl 28 _ _ rfl (w.heap.size + 1) _ rfl rfl _ _ k1.eq ?_ ?_ ?_ ?_))
        · rw [HZ.out]; simp [HL.out]
        · simp [HL.out]
        · exact all_oneCell_toArray (byt_one _)
        · have h3 := k1.setRow ((digest sf).map byt).toArray
          have hs9 : (Tryd.prog.info? 28).map (·.size) = some ((digest sf).map byt).toArray.size := by rw [HZ.out]; simp [HL.out]
          have hsf := HSF.out
          subst hsf
          refine bodyPost_ret (results_cell_row Tryd.results83 _ _ (w.heap.size + 1) _ _ _ _ rfl h3 Tryd.underlying28 rfl hs9) rfl ⟨rfl, below_setRow hbw (by omega) _⟩
end Go.Proofs.YteekdhcffiaaaaaDoor
namespace Go.Proofs.YteekdhcffiaaaaaDoor
open Go Go.RowKit Sh Leaf

abbrev hstate (l : List B8) (v : Value) : Array Value := hashv (stAfter l) v (l.length : Int)
abbrev tagv (l : List B8) : Value := .agg (l.map byt).toArray

theorem write_st (l b : List B8) (vr vb : Value) (Qr Qb : Nat → Prop) (w : World) (hr : Bytes w Qr vr (restOf l)) (hb : Bytes w Qb vb b) (hK : Consts w) (hl : l.length ≤ 1000000) (hbl : b.length ≤ 1000000) :
    Calls Tryd.prog 84 #[.agg (hstate l vr), vb] w fun e w' => ∃ v', e = .returned (.agg (hstate (l ++ b) v')) ∧ Bytes w' (fun g => w.heap.size ≤ g) v' (restOf (l ++ b)) ∧ Below w.heap.size w w' := by
  refine (write (stAfter l) vr vb (restOf l) b l.length Qr Qb w hr hb hK (by rw [restOf_length]; omega) (by omega)).mono ?_
  rintro e w' ⟨v', rfl, h1, h2⟩
  rw [st_write, rest_write] at *
  refine ⟨v', ?_, h1, h2⟩
  rw [hstate, List.length_append, Int.natCast_add]
theorem sum_st (l : List B8) (vr : Value) (Q : Nat → Prop) (w : World) (hr : Bytes w Q vr (restOf l)) (hK : Consts w) (hl : l.length ≤ 1000000) :
    Calls Tryd.prog 83 #[.agg (hstate l vr)] w fun e w' => e = .returned (tagv (sha l)) ∧ Below w.heap.size w w' := by
  refine (sum (stAfter l) vr (restOf l) l.length Q w hr hK (by rw [restOf_length]; omega) hl).mono ?_
  rintro e w' ⟨rfl, h2⟩
  exact ⟨by rw [st_write, ← sha_eq], h2⟩
theorem new_st (w : World) (hT : Tables w) : Calls Tryd.prog 85 #[] w fun e w' => e = .returned (.agg (hstate [] (.slice none 0 0))) ∧ Below w.heap.size w w' := new w hT

set_option maxRecDepth 20000 in
set_option maxHeartbeats 1000000 in
theorem of_ (v : Value) (l : List B8) (Q : Nat → Prop) (w : World) (hr : Bytes w Q v l) (hT : Tables w) (hl : l.length ≤ 1000000) :
    Calls Tryd.prog 82 #[v] w fun e w' => e = .returned (tagv (sha l)) ∧ Below w.heap.size w w' := by
  go_enter Tryd.func82, Tryd.ntmps82
  go_wp2_with fail
  have hT0 : ∀ o, Tables (w.alloc o) := fun o => hT.below (Nat.le_refl _) ((Below.refl _ _).alloc (Nat.le_refl _) _)
  refine (new_st _ (hT0 _)).mono ?_
  rintro e w1 ⟨rfl, hb1⟩
  have k1 : Whole w1 w.heap.size 28 (Array.replicate 32 (.int .u8 0)) := Whole.below (Whole.here _ _ _) hb1 (by simp)
  have hT1 : Tables w1 := (hT0 _).below (Nat.le_refl _) hb1
  have hr1 : Bytes w1 Q v l := (hr.alloc _).below hb1 (Nat.le_refl _)
  have hw1 : Below w.heap.size w w1 := ((Below.refl _ _).alloc (Nat.le_refl _) _).trans (hb1.mono (by simp))
  clear hb1 hT0 hT hr
  go_wp2_with fail
  refine (write_st [] l _ _ (fun _ => True) Q _ (Bytes.nil _ _) hr1 hT1.1 (by simp) hl).mono ?_
  rintro e w2 ⟨v2, rfl, hv2, hb2⟩
  rw [List.nil_append] at hv2 ⊢
  have k2 := k1.below hb2 k1.lt
  have hT2 : Tables w2 := hT1.below (Nat.le_refl _) hb2
  have hw2 := hw1.trans (hb2.mono hw1.size)
  clear hb2 hT1 hw1 k1 hr1
  go_wp2_with fail
  refine (sum_st l _ _ _ hv2 hT2.1 hl).mono ?_
  rintro e w3 ⟨rfl, hb3⟩
  have k3 := k2.below hb3 k2.lt
  have hw3 := hw2.trans (hb3.mono hw2.size)
  have hdl : (sha l).length = 32 := digest_length _
  have HL := Lib.hid hdl
  have HZ : Hid ((Tryd.prog.info? 28).map (·.size) = some 32) := Lib.hid (by kernel_rfl)
  clear hb3 hT2 hw2 k2 hv2 hdl
  go_wp2_with (with_reducible refine wpList_store_row rfl 28 _ _ rfl w.heap.size _ rfl rfl _ _ k3.eq ?_ ?_ ?_ ?_)
  · rw [HZ.out]; simp [HL.out]
  · simp [HL.out]
  · exact all_oneCell_toArray (byt_one _)
  · exact bodyPost_ret (results_cell_row Tryd.results82 _ _ w.heap.size _ _ _ _ rfl (k3.setRow _) Tryd.underlying28 rfl (by rw [HZ.out]; simp [HL.out])) rfl ⟨rfl, below_setRow hw3 (by omega) _⟩
end Go.Proofs.YteekdhcffiaaaaaDoor
namespace Go.Proofs.YteekdhcffiaaaaaDoor
namespace Sh
open Go

def kb (key : List B8) : List B8 := if 64 < key.length then sha key else key
theorem sha_length (l : List B8) : (sha l).length = 32 := digest_length _
theorem kb_length (key : List B8) : (kb key).length ≤ 64 := by
  unfold kb
  split
  · rw [sha_length]; omega
  · omega
def ext (key : List B8) : List B8 := kb key ++ List.replicate (64 - (kb key).length) 0
theorem ext_length (key : List B8) : (ext key).length = 64 := by
  have := kb_length key
  simp [ext]; omega
def mask (k : List B8) (m : B8) : List B8 := k.map (· ^^^ m)
theorem mask_length (k : List B8) (m : B8) : (mask k m).length = k.length := by simp [mask]
def hmac (key msg : List B8) : List B8 := sha (mask (ext key) 92 ++ sha (mask (ext key) 54 ++ msg))

end Sh
open Go Go.RowKit Sh Leaf

end Go.Proofs.YteekdhcffiaaaaaDoor
namespace Go.Proofs.YteekdhcffiaaaaaDoor
open Go Go.RowKit Sh Leaf

def purp (s : ByteArray) (n : Nat) : List B8 := sbytes s ++ [0] ++ beBytes n 8
theorem purp_length (s : ByteArray) (n : Nat) : (purp s n).length = s.size + 9 := by simp [purp, sbytes_length, beBytes_length]

end Go.Proofs.YteekdhcffiaaaaaDoor
namespace Go.Proofs.YteekdhcffiaaaaaDoor
open Go Go.RowKit Sh Leaf

theorem ext_row (k : List B8) : (k.map byt ++ (List.replicate 64 (Value.int .u8 0)).drop k.length) = (k ++ List.replicate (64 - k.length) 0).map byt := by
  have h0 : bv 0 = 0 := by unfold bv; rfl
  rw [List.map_append, List.drop_replicate, List.map_replicate, byt, h0]

theorem ext_brow (l : List B8) : brow 64 (fun j => (ext l).getD j 0) = ((ext l).map byt).toArray := by
  have := brow_list (ext l)
  rwa [ext_length] at this

set_option maxRecDepth 20000 in
set_option maxHeartbeats 1000000 in
theorem extended_ (v : Value) (l : List B8) (Q : Nat → Prop) (w : World) (hr : Bytes w Q v l) (hT : Tables w) (hl : l.length ≤ 1000000) :
    Calls Tryd.prog 75 #[v] w fun e w' => e = .returned (.agg (brow 64 fun j => (ext l).getD j 0)) ∧ Below w.heap.size w w' := by
  obtain ⟨A, c, rfl, -⟩ := id hr
  have hT0 : ∀ o o', Tables ((w.alloc o).alloc o') := fun o o' => hT.below (Nat.le_refl _) (((Below.refl _ _).alloc (Nat.le_refl _) _).alloc (by simp) _)
  have hb0 : ∀ o o', Below w.heap.size w ((w.alloc o).alloc o') := fun o o' => ((Below.refl _ _).alloc (Nat.le_refl _) _).alloc (by simp) _
  have hE : Hid ((Tryd.prog.info? 123).map (·.size) = some 64) := Lib.hid (by kernel_rfl)
  have hB := Lib.hid (ext_brow l)
  obtain ⟨f, hf⟩ : ∃ f, f = fun j => (ext l).getD j 0 := ⟨_, rfl⟩
  rw [← hf] at hB ⊢
  clear hf
  have hsl := fun g W => run_sliceAt_whole (P := Tryd.prog) (t := 123) (e := 5) (n := 64) Tryd.underlying123 (by kernel_rfl) g W
  have hst := fun g W => run_sliceAt_whole (P := Tryd.prog) (t := 28) (e := 5) (n := 32) Tryd.underlying28 (by kernel_rfl) g W
  have k1 : ∀ o cs, Whole ((w.alloc o).alloc (.cells cs 123)) (w.heap.size + 1) 123 cs := fun o cs => Whole.at_ _ _ _ _ (by simp)
  have k0 : ∀ cs o, Whole ((w.alloc (.cells cs 123)).alloc o) w.heap.size 123 cs := fun cs o => (Whole.here _ _ _).alloc _
  by_cases h64 : 64 < l.length
  · have hk : kb l = sha l := by unfold kb; rw [if_pos h64]
    have he : (sha l ++ List.replicate (64 - (sha l).length) 0) = ext l := by unfold ext; rw [hk]
    go_enter Tryd.func75, Tryd.ntmps75
    go_wp2_with fail
    refine (of_ _ l Q _ (hr.alloc _ |>.alloc _) (hT0 _ _) hl).mono ?_
    rintro e w1 ⟨rfl, hb1⟩
    have k0' : Whole w1 w.heap.size 123 (Array.replicate 64 (.int .u8 0)) := (k0 _ _).below hb1 (by simp; omega)
    have k1' : Whole w1 (w.heap.size + 1) 123 (Array.replicate 64 (.int .u8 0)) := (k1 _ _).below hb1 (by simp)
    have hw1 := (hb0 _ _).trans (hb1.mono (hb0 _ _).size)
    have hs1 : w.heap.size + 2 ≤ w1.heap.size := by have := hb1.size; simp at this; omega
    have hdl : (sha l).length = 32 := sha_length _
    have HL := Lib.hid hdl
    have HZ : Hid ((Tryd.prog.info? 28).map (·.size) = some 32) := Lib.hid (by kernel_rfl)
    have n0 : ∀ cs, Whole (w1.alloc (.cells cs 28)) w1.heap.size 28 cs := fun cs => Whole.here _ _ _
    have n1 : ∀ cs, Whole ((w1.alloc (.cells cs 28)).setRow w1.heap.size ((sha l).map byt).toArray) w1.heap.size 28 ((sha l).map byt).toArray := fun cs => (n0 cs).setRow _
    have hbx : ∀ cs, Below w1.heap.size w1 ((w1.alloc (.cells cs 28)).setRow w1.heap.size ((sha l).map byt).toArray) := fun cs => below_setRow ((Below.refl _ _).alloc (Nat.le_refl _) _) (Nat.le_refl _) _
    have hby : ∀ cs, Bytes ((w1.alloc (.cells cs 28)).setRow w1.heap.size ((sha l).map byt).toArray) (fun b => b = w1.heap.size) (.slice (some ⟨w1.heap.size, 0, none⟩) 32 32) (sha l) := fun cs => by
      have := (n1 cs).bytes (by omega)
      rwa [hdl] at this
    clear hdl hr hT0 k0 k1 hb1 hT
    go_wp2_with (first
      | (with_reducible refine wpList_store_row rfl 28 _ _ rfl w1.heap.size _ rfl rfl _ _ (n0 _).eq (by rw [HZ.out]; simp [HL.out]) (by simp [HL.out]) (all_oneCell_toArray (byt_one _)) ?_)
      | (with_reducible refine wpList_copy_bytes rfl (.tmp 11) (.tmp 12) rfl (w.heap.size + 1) 64 64 rfl _ rfl _ (sha l) (hby _) _ (List.replicate 64 (.int .u8 0)) (k1'.below (hbx _) k1'.lt) (by rw [HL.out]; omega) (by simp) ?_))
    intro w2 hk2 hb2
    have hk2' : Whole w2 (w.heap.size + 1) 123 ((sha l).map byt ++ (List.replicate 64 (Value.int .u8 0)).drop (sha l).length).toArray := hk2.out
    rw [ext_row, he, ← hB.out] at hk2'
    have k0'' : Whole w2 w.heap.size 123 (brow 64 fun _ => 0) := by rw [brow_zero]; exact (k0'.below (hbx _) k0'.lt).below hb2 (by omega)
    have hw2 := (hw1.trans ((hbx _).mono hw1.size)).trans (hb2.mono (by omega))
    have K2 := Lib.hid hk2'
    have K0 := Lib.hid k0''
    clear hk2' k0''
    clear hk2 hbx n0 n1 hby k1' k0' hb2 he hb0
    go_wp2_with (first
      | (with_reducible refine wpList_load_row rfl 123 _ rfl (w.heap.size + 1) rfl _ _ _ _ K2.out.eq Tryd.underlying123 rfl (by rw [hE.out, brow_size]) ?_)
      | (with_reducible refine wpList_store_row rfl 123 _ _ rfl w.heap.size _ rfl rfl _ _ K0.out.eq (by rw [hE.out, brow_size]) (by rw [brow_size, brow_size]) (brow_one _ _) (RowKit.Hid.out ?_)))
    refine Lib.hid ?_
    refine (‹∀ (a : Act) (w : World), Code.wp Tryd.prog Code.ret _ a w → _›) _ _ ?_
    apply wp_ret
    refine bodyPost_ret (results_cell_row Tryd.results75 _ _ w.heap.size _ _ _ _ rfl (K0.out.setRow _) Tryd.underlying123 rfl (by rw [hE.out, brow_size])) rfl ⟨rfl, below_setRow hw2 (Nat.le_refl _) (brow 64 f)⟩
  · have hk : kb l = l := by unfold kb; rw [if_neg h64]
    have he : (l ++ List.replicate (64 - l.length) 0) = ext l := by unfold ext; rw [hk]
    go_enter Tryd.func75, Tryd.ntmps75
    go_wp2_with (with_reducible refine wpList_copy_bytes rfl (.tmp 11) (.tmp 12) rfl (w.heap.size + 1) 64 64 rfl _ rfl Q l (hr.alloc _ |>.alloc _) _ (List.replicate 64 (.int .u8 0)) (k1 _ _) (by omega) (by simp) ?_)
    intro w2 hk2 hb2
    have hk2' : Whole w2 (w.heap.size + 1) 123 (l.map byt ++ (List.replicate 64 (Value.int .u8 0)).drop l.length).toArray := hk2.out
    rw [ext_row, he, ← hB.out] at hk2'
    have k0'' : Whole w2 w.heap.size 123 (brow 64 fun _ => 0) := by rw [brow_zero]; exact (k0 _ _).below hb2 (by omega)
    have hw2 := (hb0 _ _).trans (hb2.mono (by omega))
    have K2 := Lib.hid hk2'
    have K0 := Lib.hid k0''
    clear hk2' k0''
    clear hk2 k1 k0 hb2 he hb0 hT0
    go_wp2_with (first
      | (with_reducible refine wpList_load_row rfl 123 _ rfl (w.heap.size + 1) rfl _ _ _ _ K2.out.eq Tryd.underlying123 rfl (by rw [hE.out, brow_size]) ?_)
      | (with_reducible refine wpList_store_row rfl 123 _ _ rfl w.heap.size _ rfl rfl _ _ K0.out.eq (by rw [hE.out, brow_size]) (by rw [brow_size, brow_size]) (brow_one _ _) (RowKit.Hid.out ?_)))
    refine Lib.hid ?_
    refine (‹∀ (a : Act) (w : World), Code.wp Tryd.prog Code.ret _ a w → _›) _ _ ?_
    apply wp_ret
    refine bodyPost_ret (results_cell_row Tryd.results75 _ _ w.heap.size _ _ _ _ rfl (K0.out.setRow _) Tryd.underlying123 rfl (by rw [hE.out, brow_size])) rfl ⟨rfl, below_setRow hw2 (Nat.le_refl _) (brow 64 f)⟩
theorem extended (v : Value) (l : List B8) (Q : Nat → Prop) (w : World) (hr : Bytes w Q v l) (hT : Tables w) (hl : l.length ≤ 1000000) :
    Calls Tryd.prog 75 #[v] w fun e w' => e = .returned (.agg ((ext l).map byt).toArray) ∧ Below w.heap.size w w' := by
  rw [← ext_brow]
  exact extended_ v l Q w hr hT hl
end Go.Proofs.YteekdhcffiaaaaaDoor
namespace Go.Proofs.YteekdhcffiaaaaaDoor
open Go Go.RowKit Sh Leaf

theorem mask_brow (l : List B8) (hl : l.length = 64) (m : B8) : brow 64 (fun j => l.getD j 0 ^^^ m) = ((mask l m).map byt).toArray := by
  have h := brow_list (mask l m)
  rw [mask_length, hl] at h
  rw [← h]
  refine brow_congr fun j hj => ?_
  simp [mask, List.getD_eq_getElem?_getD, hl, hj]

theorem results_cell_mid {P : Program} {fn : Func} {p : Tmp} {ty : TypeId} (h : fn.results = #[.cell p ty]) (tmps : Array Value) (w : World) (g o : Nat) (cs : List Value) (d : TypeDesc)
    (hp : tmps.getD p undef = .pointer (some ⟨g, o, none⟩)) (hg : w.rangeAt g o cs) (hu : P.underlying ty = some d) (hd : d.isRow = true) (hi : (P.info? ty).map (·.size) = some cs.length) :
    (results fn tmps).run P w = .ok (.agg cs.toArray) w := by
  have hp' : tmps[p]?.getD undef = .pointer (some ⟨g, o, none⟩) := by simpa using hp
  simp [results, h, hp', asAddr, run_loadVar_mid w g o ty cs d hg hu hd hi]

set_option maxRecDepth 20000 in
set_option maxHeartbeats 1000000 in
theorem hdigest (l : List B8) (hl : l.length = 64) (m : B8) (v : Value) (b : List B8) (Q : Nat → Prop) (w : World) (hr : Bytes w Q v b) (hT : Tables w) (hb : b.length ≤ 900000) :
    Calls Tryd.prog 76 #[.agg (l.map byt).toArray, byt m, v] w fun e w' => e = .returned (tagv (sha (mask l m ++ b))) ∧ Below w.heap.size w w' := by
  have hB : brow 64 (fun j => l.getD j 0) = (l.map byt).toArray := by
    have := brow_list l
    rwa [hl] at this
  have hM := Lib.hid (mask_brow l hl m)
  rw [← hB]
  clear hB
  obtain ⟨f, hf⟩ : ∃ f, f = fun j => l.getD j 0 := ⟨_, rfl⟩
  have hM' : Hid (brow 64 (fun j => f j ^^^ m) = ((mask l m).map byt).toArray) := Lib.hid (by rw [hf]; exact hM.out)
  rw [← hf]
  clear hf hM
  have hml : (mask l m).length = 64 := by rw [mask_length, hl]
  obtain ⟨K, hK⟩ : ∃ K, K = mask l m := ⟨_, rfl⟩
  rw [← hK] at hM' hml ⊢
  clear hK
  have hT0 : ∀ o o', Tables ((w.alloc o).alloc o') := fun o o' => hT.below (Nat.le_refl _) (((Below.refl _ _).alloc (Nat.le_refl _) _).alloc (by simp) _)
  have hb0 : ∀ o o', Below w.heap.size w ((w.alloc o).alloc o') := fun o o' => ((Below.refl _ _).alloc (Nat.le_refl _) _).alloc (by simp) _
  have k0 : ∀ cs o, Whole ((w.alloc (.cells cs 123)).alloc o) w.heap.size 123 cs := fun cs o => (Whole.here _ _ _).alloc _
  have k1 : ∀ o cs, Whole ((w.alloc o).alloc (.cells cs 28)) (w.heap.size + 1) 28 cs := fun o cs => Whole.at_ _ _ _ _ (by simp)
  go_enter Tryd.func76, Tryd.ntmps76
  go_wp2
  go_loopw [8] (fun i wr => ∃ k : Nat, k ≤ 64 ∧ i = .int .i64 k ∧ Whole wr w.heap.size 123 (brow 64 fun j => if j < k then f j ^^^ m else f j) ∧ Whole wr (w.heap.size + 1) 28 (brow 32 fun _ => 0) ∧ Below w.heap.size w wr) (fun i _ => 64 - (intOf i).toNat)
  case atStart => exact ⟨0, by omega, rfl, by simpa using k0 _ _, by rw [brow_zero]; exact k1 _ _, hb0 _ _⟩
  case round =>
    obtain ⟨k, hk, rfl, h0, h1, hbw⟩ := hrel
    by_cases hlt : k < 64
    · have hc : wr.cell? ⟨w.heap.size, k, none⟩ = some (byt (f k)) := by rw [h0.cell, brow_get 64 _ k hlt, if_neg (by omega)]
      have hz := h0.frozen k
      have hx := bits_xor_bv (f k) m
      have hset := h0.set k (byt (f k ^^^ m))
      rw [brow_set 64 _ k _ hlt, brow_congr (g := fun j => if j < k + 1 then f j ^^^ m else f j) (fun j _ => by
        by_cases e1 : j = k
        · subst e1; rw [if_pos rfl, if_pos (by omega)]
        · by_cases e2 : j < k
          · rw [if_neg e1, if_pos e2, if_pos (by omega)]
          · rw [if_neg e1, if_neg e2, if_neg (by omega)])] at hset
      have hn : Whole (wr.setCell ⟨w.heap.size, k, none⟩ (byt (f k ^^^ m))) (w.heap.size + 1) 28 (brow 32 fun _ => 0) := h1.far (by simp) _
      have hbw2 := hbw.setCell (p := ⟨w.heap.size, k, none⟩) (Nat.le_refl _) (byt (f k ^^^ m))
      have HS := Lib.hid (And.intro hset (And.intro hn hbw2))
      clear hset hn hbw2 h0 h1 hbw
      go_wp2
      go_roundw
      case rel => exact ⟨k + 1, by omega, by go_num, HS.out.1, HS.out.2.1, HS.out.2.2⟩
      case measure => simp [intOf]; omega
    · have hk64 : k = 64 := by omega
      subst hk64
      rw [brow_congr (g := fun j => f j ^^^ m) (fun j hj => if_pos hj), hM'.out] at h0
      have hT1 : Tables wr := hT.below (Nat.le_refl _) hbw
      have hby := h0.bytes (by omega)
      rw [hml] at hby
      have hr1 := hr.below hbw (Nat.le_refl _)
      clear hr hT hT0 hb0 k0 k1
      have hsl := fun g W => run_sliceAt_whole (P := Tryd.prog) (t := 123) (e := 5) (n := 64) Tryd.underlying123 (by kernel_rfl) g W
      have ht : wr.there (w.heap.size + 1) 0 32 := h1.there 0 32 (by rw [brow_size]; omega)
      have hsz : (Tryd.prog.info? 28).map (·.size) = some 32 := by kernel_rfl
      have HB := Lib.hid hby
      have HR := Lib.hid hr1
      have H0 := Lib.hid h0
      have H1 := Lib.hid h1
      have HT := Lib.hid hT1
      have HW := Lib.hid hbw
      clear hby hr1 h0 h1 hT1 hbw
      have hKb : (K ++ b).length ≤ 1000000 := by simp; omega
      have HKb := Lib.hid hKb
      have hone := byt_one (sha (K ++ b))
      have hlen : ((sha (K ++ b)).map byt).length = 32 := by rw [List.length_map, sha_length]
      clear hKb
      go_wp2
      have hd0 : wr.drew.there (w.heap.size + 1) 0 32 := ht
      go_region_held3 (fun w' => w'.there (w.heap.size + 1) 0 32) (first | (exact World.there_setCells (by assumption) _ _ _) | assumption)
        (first
          | (go_at_call 83; refine (sum_st (K ++ b) v7 _ _ hv7 (HT.out.below (Nat.le_refl _) hbw7).1 HKb.out).mono ?_; rintro e w8 ⟨rfl, hb8⟩; have hbw8 : Below wr.heap.size wr w8 := hbw7.trans (hb8.mono hbw7.size); have hd8 : w8.there (w.heap.size + 1) 0 32 := (H1.out.below hbw8 H1.out.lt).there 0 32 (by rw [brow_size]; omega))
          | (go_at_call 84; refine (write_st K b v6 _ _ Q _ hv6 (HR.out.below hbw6 (Nat.le_refl _)) (HT.out.below (Nat.le_refl _) hbw6).1 (by omega) (by omega)).mono ?_; rintro e w7 ⟨v7, rfl, hv7, hb7⟩; have hbw7 : Below wr.heap.size wr w7 := hbw6.trans (hb7.mono hbw6.size); have hd7 : w7.there (w.heap.size + 1) 0 32 := (H1.out.below hbw7 H1.out.lt).there 0 32 (by rw [brow_size]; omega))
          | (go_at_call 84; refine (write_st [] K _ _ (fun _ => True) _ _ (Bytes.nil _ _) (HB.out.below hbw5 (Nat.le_refl _)) (HT.out.below (Nat.le_refl _) hbw5).1 (by simp) (by omega)).mono ?_; rintro e w6 ⟨v6, rfl, hv6, hb6⟩; rw [List.nil_append] at hv6 ⊢; have hbw6 : Below wr.heap.size wr w6 := hbw5.trans (hb6.mono hbw5.size); have hd6 : w6.there (w.heap.size + 1) 0 32 := (H1.out.below hbw6 H1.out.lt).there 0 32 (by rw [brow_size]; omega))
          | (go_at_call 85; refine (new_st wr.drew HT.out).mono ?_; rintro e w5 ⟨rfl, hb5⟩; have hbw5 : Below wr.heap.size wr w5 := ((Below.refl _ _).drew).trans hb5; have hd5 : w5.there (w.heap.size + 1) 0 32 := (H1.out.below hbw5 H1.out.lt).there 0 32 (by rw [brow_size]; omega)))
      refine (‹∀ (a : Act) (w : World), Code.wp Tryd.prog Code.ret _ a w → _›) _ _ ?_
      apply wp_ret
      refine bodyPost_ret (results_cell_mid Tryd.results76 _ _ (w.heap.size + 1) 0 _ _ rfl (World.rangeAt_setCells_same _ _ _ _ (by rw [hlen]; exact hd8)) Tryd.underlying28 rfl (by rw [hlen]; exact hsz)) rfl ⟨rfl, ?_⟩
      exact (HW.out.trans (hbw8.mono HW.out.size)).trans (setCells_below _ (by omega) _ _ _)
end Go.Proofs.YteekdhcffiaaaaaDoor
namespace Go.Proofs.YteekdhcffiaaaaaDoor
open Go Go.RowKit Sh Leaf

theorem range_there {W0 w' : World} {g g' n : Nat} {xs : List Value} (h : W0.rangeAt g 0 xs) (hg : g < W0.heap.size) (h' : W0.there g' 0 n) (hg' : g' < W0.heap.size) (hk : Below W0.heap.size W0 w') :
    w'.rangeAt g 0 xs ∧ w'.there g' 0 n :=
  ⟨fun j v hj => (hk.cell (p := ⟨g, 0 + j, none⟩) hg).trans (h j v hj), fun j hj => by
    have := h' j hj
    rw [hk.cell (p := ⟨g', 0 + j, none⟩) hg', hk.frozen (p := ⟨g', 0 + j, none⟩) hg']
    exact this⟩

set_option maxRecDepth 20000 in
set_option maxHeartbeats 1000000 in
theorem hof (vk v : Value) (l b : List B8) (Qk Q : Nat → Prop) (w : World) (hk : Bytes w Qk vk l) (hr : Bytes w Q v b) (hT : Tables w) (hl : l.length ≤ 900000) (hb : b.length ≤ 900000) :
    Calls Tryd.prog 62 #[vk, v] w fun e w' => e = .returned (tagv (hmac l b)) ∧ Below w.heap.size w w' := by
  have hgo : sha (mask (ext l) 92 ++ sha (mask (ext l) 54 ++ b)) = hmac l b := rfl
  have hB := ext_brow l
  have hEl := ext_length l
  obtain ⟨E, hE⟩ : ∃ E, E = ext l := ⟨_, rfl⟩
  have HE := Lib.hid hE
  rw [← hE] at hgo hEl hB
  clear hE
  obtain ⟨f, hf⟩ : ∃ f, f = fun j => E.getD j 0 := ⟨_, rfl⟩
  rw [← hf] at hB
  clear hf
  have HB := Lib.hid hB
  clear hB
  have HG := Lib.hid hgo
  clear hgo
  have h54 : byt 54 = .int .u8 54 := by have : bv 54 = 54 := by unfold bv; rfl
                                        rw [byt, this]
  have h92 : byt 92 = .int .u8 92 := by have : bv 92 = 92 := by unfold bv; rfl
                                        rw [byt, this]
  have H54 := Lib.hid h54
  have H92 := Lib.hid h92
  clear h54 h92
  obtain ⟨D, hD⟩ : ∃ D, D = sha (mask E 54 ++ b) := ⟨_, rfl⟩
  have hDl : D.length = 32 := by rw [hD, sha_length]
  have hd54 : ∀ W, Bytes W Q v b → Tables W → Calls Tryd.prog 76 #[.agg (brow 64 f), .int .u8 54, v] W (fun e w' => e = .returned (tagv D) ∧ Below W.heap.size W w') := fun W h1 h2 => by
    rw [HB.out, ← H54.out, hD]
    exact hdigest E hEl 54 v b Q W h1 h2 hb
  have hd92 : ∀ W v' Q', Bytes W Q' v' D → Tables W → Calls Tryd.prog 76 #[.agg (brow 64 f), .int .u8 92, v'] W (fun e w' => e = .returned (tagv (hmac l b)) ∧ Below W.heap.size W w') := fun W v' Q' h1 h2 => by
    rw [HB.out, ← H92.out, ← HG.out, ← hD]
    exact hdigest E hEl 92 v' D Q' W h1 h2 (by omega)
  have HD54 := Lib.hid hd54
  have HD92 := Lib.hid hd92
  clear hd54 hd92 hD H54 H92 HG
  have hx0 : ∀ o, Below w.heap.size w (w.alloc o) := fun o => (Below.refl _ _).alloc (Nat.le_refl _) _
  have hT0 : ∀ o, Tables (w.alloc o) := fun o => hT.below (Nat.le_refl _) (hx0 o)
  have k0 : ∀ cs, Whole (w.alloc (.cells cs 28)) w.heap.size 28 cs := fun cs => Whole.here _ _ _
  go_enter Tryd.func62, Tryd.ntmps62
  go_wp2_with fail
  refine (extended _ l Qk _ (hk.alloc _) (hT0 _) (by omega)).mono ?_
  rintro e w1 ⟨rfl, hb1⟩
  rw [← HE.out, ← HB.out]
  have k1 : Whole w1 w.heap.size 28 (brow 32 fun _ => 0) := by rw [brow_zero]; exact (k0 _).below hb1 (by simp)
  have hw1 := (hx0 _).trans (hb1.mono (hx0 _).size)
  have hr1 := hr.below hw1 (Nat.le_refl _)
  have hT1 := hT.below (Nat.le_refl _) hw1
  have hs1 : w.heap.size < w1.heap.size := k1.lt
  clear hb1 hx0 hT0 k0 hk hr hT
  have n0 : ∀ cs, Whole (w1.alloc (.cells cs 123)) w1.heap.size 123 cs := fun cs => Whole.here _ _ _
  have n1 : ∀ cs, Whole ((w1.alloc (.cells cs 123)).setRow w1.heap.size (brow 64 f)) w1.heap.size 123 (brow 64 f) := fun cs => (n0 cs).setRow _
  have hbx : ∀ cs, Below w1.heap.size w1 ((w1.alloc (.cells cs 123)).setRow w1.heap.size (brow 64 f)) := fun cs => below_setRow ((Below.refl _ _).alloc (Nat.le_refl _) _) (Nat.le_refl _) _
  have hZ : Hid ((Tryd.prog.info? 123).map (·.size) = some 64) := Lib.hid (by kernel_rfl)
  go_wp2_with (first
    | (with_reducible refine wpList_store_row rfl 123 _ _ rfl w1.heap.size _ rfl rfl _ _ (n0 _).eq (by rw [hZ.out, brow_size]) (by rw [brow_size]; simp) (brow_one _ _) ?_)
    | (with_reducible refine wpList_load_row rfl 123 _ rfl w1.heap.size rfl _ _ _ _ (n1 _).eq Tryd.underlying123 rfl (by rw [hZ.out, brow_size]) ?_))
  refine (HD54.out _ (hr1.below (hbx _) (Nat.le_refl _)) (hT1.below (Nat.le_refl _) (hbx _))).mono ?_
  rintro e w2 ⟨rfl, hb2⟩
  have hb2' := (hbx _).trans (hb2.mono (hbx _).size)
  have k2 := k1.below hb2' k1.lt
  have n2 := (n1 _).below hb2 (n1 _).lt
  have hw2 := hw1.trans (hb2'.mono hw1.size)
  have hT2 := hT1.below (Nat.le_refl _) hb2'
  have hq1 : w1.heap.size < w2.heap.size := n2.lt
  clear hb2 hb2' k1 n1 n0 hw1 hr1 hT1 hbx
  have hZ2 : Hid ((Tryd.prog.info? 28).map (·.size) = some 32) := Lib.hid (by kernel_rfl)
  have HDl := Lib.hid hDl
  have m0 : ∀ cs, Whole (w2.alloc (.cells cs 28)) w2.heap.size 28 cs := fun cs => Whole.here _ _ _
  have m1 : ∀ cs, Whole ((w2.alloc (.cells cs 28)).setRow w2.heap.size (D.map byt).toArray) w2.heap.size 28 (D.map byt).toArray := fun cs => (m0 cs).setRow _
  have hbx : ∀ cs, Below w2.heap.size w2 ((w2.alloc (.cells cs 28)).setRow w2.heap.size (D.map byt).toArray) := fun cs => below_setRow ((Below.refl _ _).alloc (Nat.le_refl _) _) (Nat.le_refl _) _
  clear hDl
  go_wp2_with (with_reducible refine wpList_store_row rfl 28 _ _ rfl w2.heap.size _ rfl rfl _ _ (m0 _).eq (by rw [hZ2.out]; simp [HDl.out]) (by simp [HDl.out]) (all_oneCell_toArray (byt_one _)) ?_)
  have q1 := hbx #[.int .u8 0, .int .u8 0, .int .u8 0, .int .u8 0, .int .u8 0, .int .u8 0, .int .u8 0, .int .u8 0, .int .u8 0, .int .u8 0, .int .u8 0, .int .u8 0, .int .u8 0, .int .u8 0, .int .u8 0, .int .u8 0, .int .u8 0, .int .u8 0, .int .u8 0, .int .u8 0, .int .u8 0, .int .u8 0, .int .u8 0, .int .u8 0, .int .u8 0, .int .u8 0, .int .u8 0, .int .u8 0, .int .u8 0, .int .u8 0, .int .u8 0, .int .u8 0]
  have q2 := m1 #[.int .u8 0, .int .u8 0, .int .u8 0, .int .u8 0, .int .u8 0, .int .u8 0, .int .u8 0, .int .u8 0, .int .u8 0, .int .u8 0, .int .u8 0, .int .u8 0, .int .u8 0, .int .u8 0, .int .u8 0, .int .u8 0, .int .u8 0, .int .u8 0, .int .u8 0, .int .u8 0, .int .u8 0, .int .u8 0, .int .u8 0, .int .u8 0, .int .u8 0, .int .u8 0, .int .u8 0, .int .u8 0, .int .u8 0, .int .u8 0, .int .u8 0, .int .u8 0]
  clear hbx m0 m1
  generalize (w2.alloc (.cells #[.int .u8 0, .int .u8 0, .int .u8 0, .int .u8 0, .int .u8 0, .int .u8 0, .int .u8 0, .int .u8 0, .int .u8 0, .int .u8 0, .int .u8 0, .int .u8 0, .int .u8 0, .int .u8 0, .int .u8 0, .int .u8 0, .int .u8 0, .int .u8 0, .int .u8 0, .int .u8 0, .int .u8 0, .int .u8 0, .int .u8 0, .int .u8 0, .int .u8 0, .int .u8 0, .int .u8 0, .int .u8 0, .int .u8 0, .int .u8 0, .int .u8 0, .int .u8 0] 28)).setRow w2.heap.size (D.map byt).toArray = W0 at q1 q2 ⊢
  have k3 := k2.below q1 k2.lt
  have n3 := n2.below q1 n2.lt
  have hT3 := hT2.below (Nat.le_refl _) q1
  have hw3 := hw2.trans (q1.mono hw2.size)
  have hby := q2.bytes (by rw [HDl.out]; omega)
  rw [HDl.out] at hby
  have HX : Hid (W0.rangeAt w1.heap.size 0 (E.map byt)) := Lib.hid (by
    intro j x hj
    rw [n3.cell, HB.out, List.getElem?_toArray, Nat.zero_add]
    exact hj)
  have HY : Hid (W0.there w.heap.size 0 32) := Lib.hid (k3.there 0 32 (by rw [brow_size]; omega))
  have p1 : w1.heap.size < W0.heap.size := n3.lt
  have p0 : w.heap.size < W0.heap.size := k3.lt
  have hone := byt_one (hmac l b)
  have hlen : ((hmac l b).map byt).length = 32 := by rw [List.length_map]; exact sha_length _
  have hu := Tryd.underlying123
  have hz : (Tryd.prog.info? 123).map (·.size) = some (E.map byt).length := by rw [hZ.out, List.length_map, hEl]
  have hsz : (Tryd.prog.info? 28).map (·.size) = some 32 := hZ2.out
  have hst := fun g W => run_sliceAt_whole (P := Tryd.prog) (t := 28) (e := 5) (n := 32) Tryd.underlying28 (by kernel_rfl) g W
  have hd92' : ∀ W v' Q', Bytes W Q' v' D → Tables W → Calls Tryd.prog 76 #[.agg (E.map byt).toArray, .int .u8 92, v'] W (fun e w' => e = .returned (tagv (hmac l b)) ∧ Below W.heap.size W w') := by
    rw [← HB.out]; exact HD92.out
  have HD := Lib.hid hd92'
  have HT3 := Lib.hid hT3
  have HW3 := Lib.hid hw3
  have HBY := Lib.hid hby
  clear hd92' HD92 HD54 hT3 hw3 hby k2 k3 n2 n3 q1 q2 hT2 hw2
  obtain ⟨M, hMd⟩ : ∃ M, M = hmac l b := ⟨_, rfl⟩
  rw [← hMd] at hone hlen HD
  have HM := Lib.hid hMd
  clear hMd
  have hd0 : W0.drew.rangeAt w1.heap.size 0 (E.map byt) ∧ W0.drew.there w.heap.size 0 32 := ⟨HX.out, HY.out⟩
  have hne : w1.heap.size ≠ w.heap.size := by omega
  go_region_held3 (fun w' => w'.rangeAt w1.heap.size 0 (E.map byt) ∧ w'.there w.heap.size 0 32)
    (first | assumption | (exact ⟨World.rangeAt_setCells_apart (And.left (by assumption)) _ _ _ (Or.inl hne), World.there_setCells (And.right (by assumption)) _ _ _⟩))
    (first
      | (go_at_call 76; refine (HD.out W0.drew _ _ HBY.out HT3.out).mono ?_; rintro e w5 ⟨rfl, hb5⟩; have hbw5 : Below W0.heap.size W0 w5 := ((Below.refl _ _).drew).trans hb5; have hd5 := range_there HX.out p1 HY.out p0 hbw5))
  refine (‹∀ (a : Act) (w : World), Code.wp Tryd.prog Code.ret _ a w → _›) _ _ ?_
  apply wp_ret
  refine bodyPost_ret (results_cell_mid Tryd.results62 _ _ w.heap.size 0 _ _ rfl (World.rangeAt_setCells_same _ _ _ _ (by rw [hlen]; exact hd5.2)) Tryd.underlying28 rfl (by rw [hlen]; exact hsz)) rfl ⟨by rw [HM.out], ?_⟩
  exact (HW3.out.trans (hbw5.mono HW3.out.size)).trans (setCells_below _ (Nat.le_refl _) _ _ _)
end Go.Proofs.YteekdhcffiaaaaaDoor
namespace Go.Proofs.YteekdhcffiaaaaaDoor
open Go Go.RowKit Sh Leaf

def der (K : List B8) (s : ByteArray) (z : Int) : List B8 × Int :=
  if LabOK s then if z < 0 ∨ 281474976710656 < z then (List.replicate 32 0, 1) else (hmac K (purp s z.toNat), 0) else (List.replicate 32 0, 7)

theorem results_cell_slot {P : Program} {fn : Func} {p q : Tmp} {ty : TypeId} (h : fn.results = #[.cell p ty, .tmp q]) (tmps : Array Value) (w : World) (g : Nat) (cs : List Value) (d : TypeDesc)
    (hp : tmps.getD p undef = .pointer (some ⟨g, 0, none⟩)) (x : Value) (hq : tmps.getD q undef = x) (hg : w.rangeAt g 0 cs) (hu : P.underlying ty = some d) (hd : d.isRow = true) (hi : (P.info? ty).map (·.size) = some cs.length) :
    (results fn tmps).run P w = .ok (.tuple #[.agg cs.toArray, x]) w := by
  have hp' : tmps[p]?.getD undef = .pointer (some ⟨g, 0, none⟩) := by simpa using hp
  have hq' : tmps[q]?.getD undef = x := by simpa using hq
  simp [results, h, hp', hq', asAddr, run_loadVar_mid w g 0 ty cs d hg hu hd hi]

end Go.Proofs.YteekdhcffiaaaaaDoor
namespace Go.Proofs.YteekdhcffiaaaaaDoor
open Go Go.RowKit Sh Leaf

set_option maxRecDepth 20000 in
set_option maxHeartbeats 1000000 in
theorem is_label (s : ByteArray) (hs : s.size ≤ 1000000) (w : World) :
    Calls Tryd.prog 61 #[.string s] w fun e w' => e = .returned (.bool (decide (LabOK s))) ∧ w = w' := by
  by_cases h1 : s.size < 1
  · have hd : decide (LabOK s) = false := decide_eq_false fun h => by have := h.1; omega
    go_enter Tryd.func61, Tryd.ntmps61
    go_wp2
    go_ret
    exact ⟨by first | rfl | (rw [hd]; rfl), rfl⟩
  by_cases h2 : 16 < s.size
  · have hd : decide (LabOK s) = false := decide_eq_false fun h => by have := h.2.1; omega
    go_enter Tryd.func61, Tryd.ntmps61
    go_wp2
    go_ret
    exact ⟨by first | rfl | (rw [hd]; rfl), rfl⟩
  go_enter Tryd.func61, Tryd.ntmps61
  go_wp2
  go_loopw [14] (fun i wr => ∃ k : Nat, k ≤ s.size ∧ i = .int .i64 k ∧ (∀ j (h : j < s.size), j < k → 97 ≤ s[j].toNat ∧ s[j].toNat ≤ 122) ∧ w = wr) (fun i _ => s.size - (intOf i).toNat)
  case atStart => exact ⟨0, by omega, rfl, fun j _ h => by omega, rfl⟩
  case round =>
    obtain ⟨k, hk, rfl, hall, rfl⟩ := hrel
    have HA := Lib.hid hall
    clear hall
    by_cases hlt : k < s.size
    · by_cases hlo : 97 ≤ s[k].toNat
      · by_cases hhi : s[k].toNat ≤ 122
        · have h5 : (97 : Int) ≤ (s[k].toNat : Int) := by omega
          have h6 : (s[k].toNat : Int) ≤ 122 := by omega
          have hn : ∀ j (h : j < s.size), j < k + 1 → 97 ≤ s[j].toNat ∧ s[j].toNat ≤ 122 := fun j h hj => by
            by_cases e : j = k
            · subst e; exact ⟨hlo, hhi⟩
            · exact HA.out j h (by omega)
          have HN := Lib.hid hn
          clear hn hlo hhi
          go_wp2
          go_roundw
          case rel => exact ⟨k + 1, by omega, by go_num, HN.out, by first | rfl | trivial⟩
          case measure => simp [intOf]; omega
        · have h5 : (97 : Int) ≤ (s[k].toNat : Int) := by omega
          have h6 : (122 : Int) < (s[k].toNat : Int) := by omega
          have hd : decide (LabOK s) = false := decide_eq_false fun h => hhi (h.2.2 k hlt).2
          have HD := Lib.hid hd
          clear hd hlo hhi
          go_wp2
          go_ret
          exact ⟨by rw [HD.out]; rfl, rfl⟩
      · have h5 : (s[k].toNat : Int) < 97 := by omega
        have hd : decide (LabOK s) = false := decide_eq_false fun h => hlo (h.2.2 k hlt).1
        have HD := Lib.hid hd
        clear hd hlo
        go_wp2
        go_ret
        exact ⟨by rw [HD.out]; rfl, rfl⟩
    · have hd : decide (LabOK s) = true := decide_eq_true ⟨by omega, by omega, fun j h => HA.out j h (by omega)⟩
      have HD := Lib.hid hd
      clear hd
      go_wp2
      go_ret
      exact ⟨by rw [HD.out]; rfl, rfl⟩
set_option maxRecDepth 20000 in
set_option maxHeartbeats 1000000 in
theorem purpose (s : ByteArray) (hs : s.size ≤ 100000) (n : Nat) (w : World) :
    Calls Tryd.prog 63 #[.string s, .int .i64 n] w fun e w' => ∃ v', e = .returned v' ∧ Bytes w' (fun g => w.heap.size ≤ g) v' (purp s n) ∧ Below w.heap.size w w' := by
  obtain ⟨v0, w0, hc, hown, hb⟩ := run_str_bytes s (by omega) w
  have hb0 := bytes_one w0 0 0 bv_zero.symm
  have hs0 := hb.size
  have hsl := sbytes_length s
  go_enter Tryd.func63, Tryd.ntmps63
  go_wp2_with (at_builtin; refine wpList_append_mark rfl _ _ rfl w.heap.size v0 (sbytes s) rfl (hown.alloc _) _ _ [0] rfl hb0 (by simp) (by simp; omega) (by simp; omega) ?_; intro v1 w1 hown1 hb1)
  have hq1 := ((hb.alloc (by omega) (.cells #[.int .u8 0] 5))).trans hb1
  obtain ⟨L, hL⟩ : ∃ L, L = sbytes s ++ [0] := ⟨_, rfl⟩
  have hLl : L.length = s.size + 1 := by rw [hL]; simp [hsl]
  rw [← hL] at hown1
  have HL := Lib.hid hL
  clear hc hown hb hb0 hs0 hsl hb1 hL
  go_loopw [5, 6] (fun vm i wr => ∃ k : Nat, k ≤ 8 ∧ i = .int .i64 (56 - 8 * (k : Int)) ∧ OwnM wr w.heap.size vm (L ++ (beBytes n 8).take k) ∧ Below w.heap.size w wr) (fun _ i _ => (intOf i + 8).toNat)
  case atStart => exact ⟨0, by omega, rfl, by simpa using hown1, hq1⟩
  case round =>
    clear hown1 hq1
    obtain ⟨k, hk, rfl, hown, hbr⟩ := hrel
    by_cases hlt : k < 8
    · have hl : ((beBytes n 8).take k).length ≤ 8 := by simp [List.length_take, beBytes_length]; omega
      have hbs := hbr.size
      have hz := be_byte n (7 - k)
      rw [show 8 * (7 - k) = 56 - 8 * k by omega] at hz
      have i0 : (0 : Int) ≤ 56 - 8 * (k : Int) := by omega
      have HZ := Lib.hid hz
      clear hz
      have hLk : (L ++ (beBytes n 8).take k).length ≤ 200000 := by rw [List.length_append]; omega
      go_wp2_with (at_builtin; refine wpList_append_mark rfl _ _ rfl w.heap.size _ (L ++ (beBytes n 8).take k) rfl (hown.alloc _) _ (.slice (some ⟨wr.heap.size, 0, none⟩) 1 1) _ rfl (bytes_one wr _ _ HZ.out) (by simp) (by simp only [List.length_singleton]; omega) (by simp; omega) ?_; intro v' w' h1 h2)
      go_roundw
      case rel =>
        refine ⟨k + 1, by omega, by go_num, ?_, (hbr.alloc (by omega) _).trans h2⟩
        rw [beBytes_take_succ n 8 k hlt, ← List.append_assoc]; exact h1
      case measure => simp [intOf]; omega
    · have ek : (beBytes n 8).take k = beBytes n 8 := List.take_of_length_le (by rw [beBytes_length]; omega)
      rw [ek, HL.out] at hown
      have hby := hown.bytes
      have HBY := Lib.hid hby
      clear ek hown hby
      go_wp2
      go_ret
      exact ⟨_, rfl, HBY.out, hbr⟩
set_option maxRecDepth 20000 in
set_option maxHeartbeats 2000000 in
theorem derive (K : List B8) (hK : K.length = 32) (s : ByteArray) (hs : s.size ≤ 1000) (z : Int) (w : World) (hT : Tables w) :
    Calls Tryd.prog 45 #[.agg (K.map byt).toArray, .string s, .int .i64 z] w fun e w' => e = .returned (.tuple #[tagv (der K s z).1, .int .i64 (der K s z).2]) ∧ Below w.heap.size w w' := by
  have k0 : ∀ cs o, Whole ((w.alloc (.cells cs 28)).alloc o) w.heap.size 28 cs := fun cs o => (Whole.here _ _ _).alloc _
  have k1 : ∀ o cs, Whole ((w.alloc o).alloc (.cells cs 28)) (w.heap.size + 1) 28 cs := fun o cs => Whole.at_ _ _ _ _ (by simp)
  have hx : ∀ o o', Below w.heap.size w ((w.alloc o).alloc o') := fun o o' => ((Below.refl _ _).alloc (Nat.le_refl _) _).alloc (by simp) _
  have hZ : Hid ((Tryd.prog.info? 28).map (·.size) = some 32) := Lib.hid (by kernel_rfl)
  have hzr : ((List.replicate 32 (0 : B8)).map byt).toArray = #[Value.int .u8 0, Value.int .u8 0, Value.int .u8 0, Value.int .u8 0, Value.int .u8 0, Value.int .u8 0, Value.int .u8 0, Value.int .u8 0, Value.int .u8 0, Value.int .u8 0, Value.int .u8 0, Value.int .u8 0, Value.int .u8 0, Value.int .u8 0, Value.int .u8 0, Value.int .u8 0, Value.int .u8 0, Value.int .u8 0, Value.int .u8 0, Value.int .u8 0, Value.int .u8 0, Value.int .u8 0, Value.int .u8 0, Value.int .u8 0, Value.int .u8 0, Value.int .u8 0, Value.int .u8 0, Value.int .u8 0, Value.int .u8 0, Value.int .u8 0, Value.int .u8 0, Value.int .u8 0] := by
    have h0 : bv 0 = 0 := by unfold bv; rfl
    simp only [List.map_replicate, byt, h0]
    rfl
  have HZR := Lib.hid hzr
  clear hzr
  by_cases hlab : LabOK s
  rotate_left
  focus
    have hd : decide (LabOK s) = false := decide_eq_false hlab
    have hder : der K s z = (List.replicate 32 0, 7) := by unfold der; rw [if_neg hlab]
    have HD := Lib.hid hd
    rw [hder]
    clear hd hder
    go_enter Tryd.func45, Tryd.ntmps45
    go_wp2_with fail
    refine (is_label s (by omega) _).mono ?_
    rintro e w1 ⟨rfl, rfl⟩
    rw [HD.out]
    go_wp2_with (with_reducible refine wpList_store_row rfl 28 _ _ rfl (w.heap.size + 1) _ rfl rfl _ _ (k1 _ _).eq (by rw [hZ.out]; simp) (by simp) (by simp [Value.oneCell']) ?_)
    have hw0 := (k1 (Obj.cells (K.map byt).toArray 28) #[Value.int .u8 0, Value.int .u8 0, Value.int .u8 0, Value.int .u8 0, Value.int .u8 0, Value.int .u8 0, Value.int .u8 0, Value.int .u8 0, Value.int .u8 0, Value.int .u8 0, Value.int .u8 0, Value.int .u8 0, Value.int .u8 0, Value.int .u8 0, Value.int .u8 0, Value.int .u8 0, Value.int .u8 0, Value.int .u8 0, Value.int .u8 0, Value.int .u8 0, Value.int .u8 0, Value.int .u8 0, Value.int .u8 0, Value.int .u8 0, Value.int .u8 0, Value.int .u8 0, Value.int .u8 0, Value.int .u8 0, Value.int .u8 0, Value.int .u8 0, Value.int .u8 0, Value.int .u8 0]).setRow #[Value.int .u8 0, Value.int .u8 0, Value.int .u8 0, Value.int .u8 0, Value.int .u8 0, Value.int .u8 0, Value.int .u8 0, Value.int .u8 0, Value.int .u8 0, Value.int .u8 0, Value.int .u8 0, Value.int .u8 0, Value.int .u8 0, Value.int .u8 0, Value.int .u8 0, Value.int .u8 0, Value.int .u8 0, Value.int .u8 0, Value.int .u8 0, Value.int .u8 0, Value.int .u8 0, Value.int .u8 0, Value.int .u8 0, Value.int .u8 0, Value.int .u8 0, Value.int .u8 0, Value.int .u8 0, Value.int .u8 0, Value.int .u8 0, Value.int .u8 0, Value.int .u8 0, Value.int .u8 0]
    have hb0 := below_setRow (hx (Obj.cells (K.map byt).toArray 28) (Obj.cells #[Value.int .u8 0, Value.int .u8 0, Value.int .u8 0, Value.int .u8 0, Value.int .u8 0, Value.int .u8 0, Value.int .u8 0, Value.int .u8 0, Value.int .u8 0, Value.int .u8 0, Value.int .u8 0, Value.int .u8 0, Value.int .u8 0, Value.int .u8 0, Value.int .u8 0, Value.int .u8 0, Value.int .u8 0, Value.int .u8 0, Value.int .u8 0, Value.int .u8 0, Value.int .u8 0, Value.int .u8 0, Value.int .u8 0, Value.int .u8 0, Value.int .u8 0, Value.int .u8 0, Value.int .u8 0, Value.int .u8 0, Value.int .u8 0, Value.int .u8 0, Value.int .u8 0, Value.int .u8 0] 28)) (g := w.heap.size + 1) (by omega) #[Value.int .u8 0, Value.int .u8 0, Value.int .u8 0, Value.int .u8 0, Value.int .u8 0, Value.int .u8 0, Value.int .u8 0, Value.int .u8 0, Value.int .u8 0, Value.int .u8 0, Value.int .u8 0, Value.int .u8 0, Value.int .u8 0, Value.int .u8 0, Value.int .u8 0, Value.int .u8 0, Value.int .u8 0, Value.int .u8 0, Value.int .u8 0, Value.int .u8 0, Value.int .u8 0, Value.int .u8 0, Value.int .u8 0, Value.int .u8 0, Value.int .u8 0, Value.int .u8 0, Value.int .u8 0, Value.int .u8 0, Value.int .u8 0, Value.int .u8 0, Value.int .u8 0, Value.int .u8 0]
    generalize World.setRow ((w.alloc (Obj.cells (K.map byt).toArray 28)).alloc (Obj.cells #[Value.int .u8 0, Value.int .u8 0, Value.int .u8 0, Value.int .u8 0, Value.int .u8 0, Value.int .u8 0, Value.int .u8 0, Value.int .u8 0, Value.int .u8 0, Value.int .u8 0, Value.int .u8 0, Value.int .u8 0, Value.int .u8 0, Value.int .u8 0, Value.int .u8 0, Value.int .u8 0, Value.int .u8 0, Value.int .u8 0, Value.int .u8 0, Value.int .u8 0, Value.int .u8 0, Value.int .u8 0, Value.int .u8 0, Value.int .u8 0, Value.int .u8 0, Value.int .u8 0, Value.int .u8 0, Value.int .u8 0, Value.int .u8 0, Value.int .u8 0, Value.int .u8 0, Value.int .u8 0] 28)) (w.heap.size + 1) #[Value.int .u8 0, Value.int .u8 0, Value.int .u8 0, Value.int .u8 0, Value.int .u8 0, Value.int .u8 0, Value.int .u8 0, Value.int .u8 0, Value.int .u8 0, Value.int .u8 0, Value.int .u8 0, Value.int .u8 0, Value.int .u8 0, Value.int .u8 0, Value.int .u8 0, Value.int .u8 0, Value.int .u8 0, Value.int .u8 0, Value.int .u8 0, Value.int .u8 0, Value.int .u8 0, Value.int .u8 0, Value.int .u8 0, Value.int .u8 0, Value.int .u8 0, Value.int .u8 0, Value.int .u8 0, Value.int .u8 0, Value.int .u8 0, Value.int .u8 0, Value.int .u8 0, Value.int .u8 0] = W1 at hw0 hb0 ⊢
    rw [← HZR.out] at hw0
    refine bodyPost_ret (results_cell_slot Tryd.results45 _ _ (w.heap.size + 1) ((List.replicate 32 0).map byt) _ rfl _ rfl (fun j v hj => by rw [Nat.zero_add, hw0.cell, List.getElem?_toArray]; exact hj) Tryd.underlying28 rfl (by rw [hZ.out]; simp)) rfl ⟨rfl, hb0⟩
  by_cases hzz : z < 0 ∨ 281474976710656 < z
  focus
    have hd : decide (LabOK s) = true := decide_eq_true hlab
    have hder : der K s z = (List.replicate 32 0, 1) := by unfold der; rw [if_pos hlab, if_pos hzz]
    have HD := Lib.hid hd
    rw [hder]
    clear hd hder
    have hcs : z < 0 ∨ (¬ z < 0 ∧ 281474976710656 < z) := by omega
    clear hzz
    rcases hcs with hc | ⟨hc, hc2⟩
    all_goals
      go_enter Tryd.func45, Tryd.ntmps45
      go_wp2_with fail
      refine (is_label s (by omega) _).mono ?_
      rintro e w1 ⟨rfl, rfl⟩
      rw [HD.out]
      go_wp2_with (with_reducible refine wpList_store_row rfl 28 _ _ rfl (w.heap.size + 1) _ rfl rfl _ _ (k1 _ _).eq (by rw [hZ.out]; simp) (by simp) (by simp [Value.oneCell']) ?_)
      have hw0 := (k1 (Obj.cells (K.map byt).toArray 28) #[Value.int .u8 0, Value.int .u8 0, Value.int .u8 0, Value.int .u8 0, Value.int .u8 0, Value.int .u8 0, Value.int .u8 0, Value.int .u8 0, Value.int .u8 0, Value.int .u8 0, Value.int .u8 0, Value.int .u8 0, Value.int .u8 0, Value.int .u8 0, Value.int .u8 0, Value.int .u8 0, Value.int .u8 0, Value.int .u8 0, Value.int .u8 0, Value.int .u8 0, Value.int .u8 0, Value.int .u8 0, Value.int .u8 0, Value.int .u8 0, Value.int .u8 0, Value.int .u8 0, Value.int .u8 0, Value.int .u8 0, Value.int .u8 0, Value.int .u8 0, Value.int .u8 0, Value.int .u8 0]).setRow #[Value.int .u8 0, Value.int .u8 0, Value.int .u8 0, Value.int .u8 0, Value.int .u8 0, Value.int .u8 0, Value.int .u8 0, Value.int .u8 0, Value.int .u8 0, Value.int .u8 0, Value.int .u8 0, Value.int .u8 0, Value.int .u8 0, Value.int .u8 0, Value.int .u8 0, Value.int .u8 0, Value.int .u8 0, Value.int .u8 0, Value.int .u8 0, Value.int .u8 0, Value.int .u8 0, Value.int .u8 0, Value.int .u8 0, Value.int .u8 0, Value.int .u8 0, Value.int .u8 0, Value.int .u8 0, Value.int .u8 0, Value.int .u8 0, Value.int .u8 0, Value.int .u8 0, Value.int .u8 0]
      have hb0 := below_setRow (hx (Obj.cells (K.map byt).toArray 28) (Obj.cells #[Value.int .u8 0, Value.int .u8 0, Value.int .u8 0, Value.int .u8 0, Value.int .u8 0, Value.int .u8 0, Value.int .u8 0, Value.int .u8 0, Value.int .u8 0, Value.int .u8 0, Value.int .u8 0, Value.int .u8 0, Value.int .u8 0, Value.int .u8 0, Value.int .u8 0, Value.int .u8 0, Value.int .u8 0, Value.int .u8 0, Value.int .u8 0, Value.int .u8 0, Value.int .u8 0, Value.int .u8 0, Value.int .u8 0, Value.int .u8 0, Value.int .u8 0, Value.int .u8 0, Value.int .u8 0, Value.int .u8 0, Value.int .u8 0, Value.int .u8 0, Value.int .u8 0, Value.int .u8 0] 28)) (g := w.heap.size + 1) (by omega) #[Value.int .u8 0, Value.int .u8 0, Value.int .u8 0, Value.int .u8 0, Value.int .u8 0, Value.int .u8 0, Value.int .u8 0, Value.int .u8 0, Value.int .u8 0, Value.int .u8 0, Value.int .u8 0, Value.int .u8 0, Value.int .u8 0, Value.int .u8 0, Value.int .u8 0, Value.int .u8 0, Value.int .u8 0, Value.int .u8 0, Value.int .u8 0, Value.int .u8 0, Value.int .u8 0, Value.int .u8 0, Value.int .u8 0, Value.int .u8 0, Value.int .u8 0, Value.int .u8 0, Value.int .u8 0, Value.int .u8 0, Value.int .u8 0, Value.int .u8 0, Value.int .u8 0, Value.int .u8 0]
      generalize World.setRow ((w.alloc (Obj.cells (K.map byt).toArray 28)).alloc (Obj.cells #[Value.int .u8 0, Value.int .u8 0, Value.int .u8 0, Value.int .u8 0, Value.int .u8 0, Value.int .u8 0, Value.int .u8 0, Value.int .u8 0, Value.int .u8 0, Value.int .u8 0, Value.int .u8 0, Value.int .u8 0, Value.int .u8 0, Value.int .u8 0, Value.int .u8 0, Value.int .u8 0, Value.int .u8 0, Value.int .u8 0, Value.int .u8 0, Value.int .u8 0, Value.int .u8 0, Value.int .u8 0, Value.int .u8 0, Value.int .u8 0, Value.int .u8 0, Value.int .u8 0, Value.int .u8 0, Value.int .u8 0, Value.int .u8 0, Value.int .u8 0, Value.int .u8 0, Value.int .u8 0] 28)) (w.heap.size + 1) #[Value.int .u8 0, Value.int .u8 0, Value.int .u8 0, Value.int .u8 0, Value.int .u8 0, Value.int .u8 0, Value.int .u8 0, Value.int .u8 0, Value.int .u8 0, Value.int .u8 0, Value.int .u8 0, Value.int .u8 0, Value.int .u8 0, Value.int .u8 0, Value.int .u8 0, Value.int .u8 0, Value.int .u8 0, Value.int .u8 0, Value.int .u8 0, Value.int .u8 0, Value.int .u8 0, Value.int .u8 0, Value.int .u8 0, Value.int .u8 0, Value.int .u8 0, Value.int .u8 0, Value.int .u8 0, Value.int .u8 0, Value.int .u8 0, Value.int .u8 0, Value.int .u8 0, Value.int .u8 0] = W1 at hw0 hb0 ⊢
      rw [← HZR.out] at hw0
      refine bodyPost_ret (results_cell_slot Tryd.results45 _ _ (w.heap.size + 1) ((List.replicate 32 0).map byt) _ rfl _ rfl (fun j v hj => by rw [Nat.zero_add, hw0.cell, List.getElem?_toArray]; exact hj) Tryd.underlying28 rfl (by rw [hZ.out]; simp)) rfl ⟨rfl, hb0⟩
  have hd : decide (LabOK s) = true := decide_eq_true hlab
  obtain ⟨n, rfl⟩ : ∃ n : Nat, z = (n : Int) := ⟨z.toNat, by omega⟩
  have hder : der K s (n : Int) = (hmac K (purp s n), 0) := by unfold der; rw [if_pos hlab, if_neg hzz]; rfl
  have HD := Lib.hid hd
  obtain ⟨M, hM⟩ : ∃ M, M = hmac K (purp s n) := ⟨_, rfl⟩
  rw [hder, ← hM]
  have ml : M.length = 32 := by rw [hM]; exact sha_length _
  have HM := Lib.hid hM
  clear hM
  have hn : n ≤ 281474976710656 := by omega
  clear hd hder hzz
  go_enter Tryd.func45, Tryd.ntmps45
  go_wp2_with fail
  refine (is_label s (by omega) _).mono ?_
  rintro e w1 ⟨rfl, rfl⟩
  rw [HD.out]
  go_wp2
  have q0 := k0 (K.map byt).toArray (Obj.cells #[Value.int .u8 0, Value.int .u8 0, Value.int .u8 0, Value.int .u8 0, Value.int .u8 0, Value.int .u8 0, Value.int .u8 0, Value.int .u8 0, Value.int .u8 0, Value.int .u8 0, Value.int .u8 0, Value.int .u8 0, Value.int .u8 0, Value.int .u8 0, Value.int .u8 0, Value.int .u8 0, Value.int .u8 0, Value.int .u8 0, Value.int .u8 0, Value.int .u8 0, Value.int .u8 0, Value.int .u8 0, Value.int .u8 0, Value.int .u8 0, Value.int .u8 0, Value.int .u8 0, Value.int .u8 0, Value.int .u8 0, Value.int .u8 0, Value.int .u8 0, Value.int .u8 0, Value.int .u8 0] 28)
  have q1 := k1 (Obj.cells (K.map byt).toArray 28) #[Value.int .u8 0, Value.int .u8 0, Value.int .u8 0, Value.int .u8 0, Value.int .u8 0, Value.int .u8 0, Value.int .u8 0, Value.int .u8 0, Value.int .u8 0, Value.int .u8 0, Value.int .u8 0, Value.int .u8 0, Value.int .u8 0, Value.int .u8 0, Value.int .u8 0, Value.int .u8 0, Value.int .u8 0, Value.int .u8 0, Value.int .u8 0, Value.int .u8 0, Value.int .u8 0, Value.int .u8 0, Value.int .u8 0, Value.int .u8 0, Value.int .u8 0, Value.int .u8 0, Value.int .u8 0, Value.int .u8 0, Value.int .u8 0, Value.int .u8 0, Value.int .u8 0, Value.int .u8 0]
  have q2 := hx (Obj.cells (K.map byt).toArray 28) (Obj.cells #[Value.int .u8 0, Value.int .u8 0, Value.int .u8 0, Value.int .u8 0, Value.int .u8 0, Value.int .u8 0, Value.int .u8 0, Value.int .u8 0, Value.int .u8 0, Value.int .u8 0, Value.int .u8 0, Value.int .u8 0, Value.int .u8 0, Value.int .u8 0, Value.int .u8 0, Value.int .u8 0, Value.int .u8 0, Value.int .u8 0, Value.int .u8 0, Value.int .u8 0, Value.int .u8 0, Value.int .u8 0, Value.int .u8 0, Value.int .u8 0, Value.int .u8 0, Value.int .u8 0, Value.int .u8 0, Value.int .u8 0, Value.int .u8 0, Value.int .u8 0, Value.int .u8 0, Value.int .u8 0] 28)
  generalize (w.alloc (Obj.cells (K.map byt).toArray 28)).alloc (Obj.cells #[Value.int .u8 0, Value.int .u8 0, Value.int .u8 0, Value.int .u8 0, Value.int .u8 0, Value.int .u8 0, Value.int .u8 0, Value.int .u8 0, Value.int .u8 0, Value.int .u8 0, Value.int .u8 0, Value.int .u8 0, Value.int .u8 0, Value.int .u8 0, Value.int .u8 0, Value.int .u8 0, Value.int .u8 0, Value.int .u8 0, Value.int .u8 0, Value.int .u8 0, Value.int .u8 0, Value.int .u8 0, Value.int .u8 0, Value.int .u8 0, Value.int .u8 0, Value.int .u8 0, Value.int .u8 0, Value.int .u8 0, Value.int .u8 0, Value.int .u8 0, Value.int .u8 0, Value.int .u8 0] 28) = W1 at q0 q1 q2 ⊢
  have hby := q0.bytes (by omega)
  rw [hK] at hby
  have HBY := Lib.hid hby
  have p1 : w.heap.size + 1 < W1.heap.size := q1.lt
  have HY : Hid (W1.there (w.heap.size + 1) 0 32) := Lib.hid (q1.there 0 32 (by simp))
  have hd0 : W1.drew.there (w.heap.size + 1) 0 32 := HY.out
  have HT : Hid (Tables W1) := Lib.hid (hT.below (Nat.le_refl _) q2)
  have HW := Lib.hid q2
  have hst := fun g W => run_sliceAt_whole (P := Tryd.prog) (t := 28) (e := 5) (n := 32) Tryd.underlying28 (by kernel_rfl) g W
  have hpl := purp_length s n
  have hof1 : ∀ W v Q, Bytes W (fun b => b = w.heap.size) (.slice (some ⟨w.heap.size, 0, none⟩) 32 32) K → Bytes W Q v (purp s n) → Tables W → Calls Tryd.prog 62 #[.slice (some ⟨w.heap.size, 0, none⟩) 32 32, v] W fun e w' => e = .returned (tagv M) ∧ Below W.heap.size W w' := fun W v Q h1 h2 h3 => by
    rw [HM.out]
    exact hof (.slice (some ⟨w.heap.size, 0, none⟩) 32 32) v K (purp s n) (fun b => b = w.heap.size) Q W h1 h2 h3 (by omega) (by omega)
  have HO := Lib.hid hof1
  have hone := byt_one M
  have hlen : (M.map byt).length = 32 := by rw [List.length_map]; exact ml
  have hsz : (Tryd.prog.info? 28).map (·.size) = some 32 := hZ.out
  clear hof1 q0 q1 q2 hby hT k0 k1 hx HZR
  go_region_held3 (fun w' => w'.there (w.heap.size + 1) 0 32)
    (first | (with_reducible assumption) | (exact World.there_setCells (by assumption) _ _ _))
    (first
      | (go_at_call 62; refine (HO.out _ _ _ (HBY.out.below hq5 (Nat.le_refl _)) hv5 (HT.out.below (Nat.le_refl _) hq5)).mono ?_; rintro e w6 ⟨rfl, hb6⟩; have hq6 := hq5.trans (hb6.mono hq5.size); have hd6 : w6.there (w.heap.size + 1) 0 32 := there_below HY.out p1 hq6)
      | (go_at_call 63; refine (purpose s (by omega) n W1.drew).mono ?_; rintro e w5 ⟨v5, rfl, hv5, hb5⟩; have hq5 : Below W1.heap.size W1 w5 := ((Below.refl _ _).drew).trans hb5; have hd5 : w5.there (w.heap.size + 1) 0 32 := there_below HY.out p1 hq5))
  refine (‹∀ (a : Act) (w : World), Code.wp Tryd.prog Code.ret _ a w → _›) _ _ ?_
  apply wp_ret
  refine bodyPost_ret (results_cell_slot Tryd.results45 _ _ (w.heap.size + 1) (M.map byt) _ rfl _ rfl (World.rangeAt_setCells_same _ _ _ _ (by rw [hlen]; exact hd6)) Tryd.underlying28 rfl (by rw [hlen]; exact hsz)) rfl ⟨rfl, ?_⟩
  exact (HW.out.trans (hq6.mono HW.out.size)).trans (setCells_below _ (by omega) _ _ _)
end Go.Proofs.YteekdhcffiaaaaaDoor
namespace Go.Proofs.YteekdhcffiaaaaaDoor
open Go Go.RowKit Sh Leaf

theorem take_eq_succ (a b : List B8) (k : Nat) (ha : k < a.length) (hb : k < b.length) (x : B8) (h : x = 0 ↔ a.take k = b.take k) : (x ||| (a[k] ^^^ b[k])) = 0 ↔ a.take (k + 1) = b.take (k + 1) := by
  have e1 : a.take (k + 1) = a.take k ++ [a[k]] := by rw [List.take_add_one, List.getElem?_eq_getElem ha]; rfl
  have e2 : b.take (k + 1) = b.take k ++ [b[k]] := by rw [List.take_add_one, List.getElem?_eq_getElem hb]; rfl
  rw [e1, e2]
  have h1 : (x ||| (a[k] ^^^ b[k])) = 0 ↔ x = 0 ∧ a[k] = b[k] := by
    generalize a[k] = y
    generalize b[k] = z
    constructor
    · intro h0
      have hx : x = 0 := by
        apply BitVec.eq_of_getElem_eq
        intro i hi
        have := congrArg (fun t => t[i]) h0
        simp at this ⊢
        exact this.1
      subst hx
      refine ⟨rfl, ?_⟩
      apply BitVec.eq_of_getElem_eq
      intro i hi
      have := congrArg (fun t => t[i]) h0
      simpa using this
    · rintro ⟨rfl, rfl⟩
      simp
  rw [h1, h]
  constructor
  · rintro ⟨h2, h3⟩; rw [h2, h3]
  · intro h2
    have := List.append_inj h2 (by simp; omega)
    exact ⟨this.1, by simpa using this.2⟩

set_option maxRecDepth 20000 in
set_option maxHeartbeats 1000000 in
theorem equal_ (va vb : Value) (a b : List B8) (Q Q' : Nat → Prop) (w : World) (ha : Bytes w Q va a) (hb : Bytes w Q' vb b) (hal : a.length ≤ 1000000) :
    Calls Tryd.prog 72 #[va, vb] w fun e w' => e = .returned (.bool (decide (a = b))) ∧ Below w.heap.size w w' := by
  obtain ⟨A, c, rfl, -⟩ := id ha
  obtain ⟨B, d, rfl, -⟩ := id hb
  by_cases hlen : a.length = b.length
  · go_enter Tryd.func72, Tryd.ntmps72
    go_wp2
    go_loopw [5, 14] (fun vx vi wr => ∃ k : Nat, ∃ x : B8, k ≤ a.length ∧ vi = .int .i64 k ∧ vx = .int .u8 (bv x) ∧ (x = 0 ↔ a.take k = b.take k) ∧ Below w.heap.size w wr) (fun _ vi _ => a.length - (intOf vi).toNat)
    case atStart => exact ⟨0, 0, by omega, rfl, by unfold bv; rfl, by simp, Below.refl _ _⟩
    case round =>
      obtain ⟨k, x, hk, rfl, rfl, hx, hbw⟩ := hrel
      by_cases hlt : k < a.length
      · obtain ⟨A1, c1, e1, -, -, -, h4⟩ := id ha
        cases e1
        obtain ⟨g, o, rfl, _, hcell⟩ := h4 (by omega)
        obtain ⟨B1, d1, e2, -, -, -, h5⟩ := id hb
        cases e2
        obtain ⟨g', o', rfl, _, hcell'⟩ := h5 (by omega)
        have hc := hcell k a[k] (List.getElem?_eq_getElem hlt)
        have hc' := hcell' k b[k] (List.getElem?_eq_getElem (by omega))
        have hgl : g < w.heap.size := block_lt_of_cell hc
        have hgl' : g' < w.heap.size := block_lt_of_cell hc'
        have hd : wr.cell? ⟨g, o + k, none⟩ = some (byt a[k]) := (hbw.cell (p := ⟨g, o + k, none⟩) hgl).trans hc
        have hd' : wr.cell? ⟨g', o' + k, none⟩ = some (byt b[k]) := (hbw.cell (p := ⟨g', o' + k, none⟩) hgl').trans hc'
        have hn := take_eq_succ a b k hlt (by omega) x hx
        have hx1 := bits_xor_bv a[k] b[k]
        have hx2 := bits_or_bv x (a[k] ^^^ b[k])
        have HN := Lib.hid hn
        have HX := Lib.hid hx
        clear hn hx hc hc' hcell hcell' h4 h5
        have hkb : k < b.length := by omega
        have bv0 := bv_le (x ||| (a[k] ^^^ b[k]))
        go_wp2
        go_quiet (fail)
        go_wp2
        go_roundw
        case rel => exact ⟨k + 1, x ||| (a[k] ^^^ b[k]), by omega, by go_num, by first | rfl | (congr 1; omega), HN.out, below_drewN hbw _⟩
        case measure => simp [intOf]; omega
      · have hk2 : k = a.length := by omega
        have hx' : (decide (bv x = 0)) = decide (a = b) := by
          have e1 : a.take k = a := by rw [hk2]; exact List.take_length
          have e2 : b.take k = b := by rw [hk2, hlen]; exact List.take_length
          rw [e1, e2] at hx
          have e3 : bv x = 0 ↔ x = 0 := by
            constructor
            · intro h
              unfold bv at h
              exact BitVec.eq_of_toNat_eq (by simp; omega)
            · rintro rfl
              unfold bv; rfl
          rw [decide_eq_decide, e3, hx]
        have hk3 : ¬ k < b.length := by omega
        clear hx
        go_wp2
        go_ret
        exact ⟨by rw [← hx']; rfl, hbw⟩
  · have hne : decide (a = b) = false := by
      rw [decide_eq_false_iff_not]
      intro h
      exact hlen (by rw [h])
    go_enter Tryd.func72, Tryd.ntmps72
    go_wp2
    go_ret
    exact ⟨by rw [hne]; rfl, Below.refl _ _⟩

end Go.Proofs.YteekdhcffiaaaaaDoor
