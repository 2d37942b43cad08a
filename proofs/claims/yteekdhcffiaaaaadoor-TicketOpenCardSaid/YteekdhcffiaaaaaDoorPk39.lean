/-
  BxStr
-/
import Derived.RangeFuncBound
import Derived.RangeFuncCalls
import Derived.RangeFuncLeaves
import Derived.RangeFuncBox
import Derived.Shelf.Abstract
import Derived.Shelf.RegionOpen
import Derived.OwnWalkIn
import Derived.TacticsInMore
import Derived.LoopNIn
import Derived.LoopIn
import Derived.Deep.RegionHeld3
import Derived.Deep.CutBlock
import Derived.Test.YteekdhcffiaaaaaDoorPk36
import Derived.Test.YteekdhcffiaaaaaDoorPk37
import Derived.Test.YteekdhcffiaaaaaDoorPk23
import Derived.Test.YteekdhcffiaaaaaDoorPk25
import Derived.Test.YteekdhcffiaaaaaDoorPk8
import Derived.Test.YteekdhcffiaaaaaDoorPk38
import Derived.Test.YteekdhcffiaaaaaDoorPk27
namespace Go.Proofs.YteekdhcffiaaaaaDoor
open Go Go.RowKit Sh Leaf
open Go.Shelf
attribute [local go_sem] Oper.semAt_some

def sblk (K N : List B8) (k : Nat) : List B8 := hmac K (strw ++ N ++ be8 k)
theorem sblk_length (K N : List B8) (k : Nat) : (sblk K N k).length = 32 := hmac_length _ _
def senc (K N : List B8) (k : Nat) : Array Value := #[.int .i64 ((k : Int) * 32), tagv (sblk K N k)]
def KpB (B g0 : Nat) (X Y : World) : Prop := X.heap.size ≤ Y.heap.size ∧ ∀ g, g < B → g ≠ g0 → Y.heap[g]? = X.heap[g]?
theorem KpB.trans {B g0 : Nat} {X Y Z : World} (h : KpB B g0 X Y) (k : KpB B g0 Y Z) : KpB B g0 X Z := ⟨Nat.le_trans h.1 k.1, fun g a b => (k.2 g a b).trans (h.2 g a b)⟩
theorem KpB.below {B g0 : Nat} {X Y : World} (h : Below X.heap.size X Y) (hB : B ≤ X.heap.size) : KpB B g0 X Y := ⟨h.size, fun g a _ => h.block g (by omega)⟩
theorem KpB.cell {B g0 : Nat} {X Y : World} (h : KpB B g0 X Y) {a : Addr} {v : Value} (hc : X.cell? a = some v) (h1 : a.block < B) (h2 : a.block ≠ g0) : Y.cell? a = some v := by
  rw [← hc]; exact World.cell?_of_block (h.2 _ h1 h2)
theorem below_marked {B G : Nat} {C : Array Value} {w W : World} (h : Below B w W) (hG : B ≤ G) : Below B w (marked G C W) :=
  ⟨h.os, h.tape, h.output, by unfold marked; rw [World.putObj_size]; exact h.size, fun k hk => (World.putObj_heap_other (by omega)).trans (h.block k hk)⟩
theorem bytes_marked {W : World} {G n B : Nat} {xs : List B8} {C : Array Value} (h : Whole W G 5 C) (hC : C = (xs.map byt).toArray) (hn : xs.length = n) (hl : n ≤ 1000) (hB : B ≤ G) : Bytes (marked G C W) (fun g => B ≤ g) (.slice (some ⟨G, 0, none⟩) n n) xs := by
  subst hn
  refine ⟨some ⟨G, 0, none⟩, xs.length, rfl, Nat.le_refl _, by unfold maxLen; omega, nofun, fun _ => ⟨G, 0, rfl, hB, fun j x hj => ?_⟩⟩
  have hh : (marked G C W).heap[G]? = some (.cells C 5 (C.size, C.size + 1)) := World.putObj_heap_same (Whole.lt h)
  rw [hC] at hh
  unfold World.cell?
  rw [hC]
  simp only [hh, Nat.zero_add]
  simp [hj]
theorem strw_cells : (#[.int .u8 115, .int .u8 116, .int .u8 114, .int .u8 101, .int .u8 97, .int .u8 109] : Array Value) = (strw.map byt).toArray := by
  simp only [strw, List.map_cons, List.map_nil, byt]
  rw [bv_lit 115 (by omega), bv_lit 116 (by omega), bv_lit 114 (by omega), bv_lit 101 (by omega), bv_lit 97 (by omega), bv_lit 109 (by omega)]
  rfl
def sdone (len : Nat) (xs : List Nat) : Prop := ∃ k, xs = List.range k ∧ len ≤ k * 32 ∧ k * 32 < len + 32

set_option linter.unusedSimpArgs false in
set_option linter.unusedVariables false in
set_option maxRecDepth 100000 in
set_option maxHeartbeats 4000000 in
theorem stream1 (n : Nat) (hn : 1 ≤ n) (l Bn Bo Bk B g0 len : Nat) (A : Option Addr) (c : Nat) (K N : List B8) (hK : K.length = 32) (hN : N.length = 8) (hlen : len ≤ 100000) (J Jx : List Nat → World → Prop) (gJ : Grows J)
    (hY : ∀ pre x W1, J pre W1 → x * 32 < len → pre.length < len + 1 → YieldAt Fence.wide (n - 1) Tryd.prog l (senc K N x) W1 fun e W' => (e = .returned (.bool true) ∧ J (pre ++ [x]) W' ∧ KpB B g0 W1 W') ∨ (e = .returned (.bool false) ∧ Jx (pre ++ [x]) W'))
    (W : World) (hB : B ≤ W.heap.size) (hn1 : Bn < B ∧ Bn ≠ g0) (hn2 : Bo < B ∧ Bo ≠ g0) (hn3 : Bk < B ∧ Bk ≠ g0)
    (hcn : W.cell? ⟨Bn, 0, none⟩ = some (.int .i64 (len : Int))) (hco : W.cell? ⟨Bo, 0, none⟩ = some (.slice A 8 c)) (hk : TGRow W Bk K) (hb : Bytes W (fun g => g < B ∧ g ≠ g0) (.slice A 8 c) N) (hT : ∀ W', KpB B g0 W W' → Tables W') (h0 : J [] W) :
    CallsIn Fence.wide n Tryd.prog 86 #[.func (.yield l) #[] #[], .pointer (some ⟨Bn, 0, none⟩), .pointer (some ⟨Bo, 0, none⟩), .pointer (some ⟨Bk, 0, none⟩)] W fun e W' => (∃ v, e = .returned v) ∧ ((∃ xs, sdone len xs ∧ J xs W') ∨ (∃ pre, True ∧ Jx pre W')) := by
  refine callsIn_of_wp Tryd.func86 rfl trivial ?_ rfl
  simp only [Tryd.ntmps86, List.size_toArray, List.length_cons, List.length_nil, Nat.reduceAdd, Nat.reduceSub, Array.replicate_succ, Array.replicate_zero, List.push_toArray, List.append_toArray, List.nil_append, List.cons_append]
  have HB := Lib.hid hb
  have HT := Lib.hid hT
  have HKW := Lib.hid hk
  have HCN := Lib.hid hcn
  have HCO := Lib.hid hco
  have HNl := Lib.hid hN
  have HKl := Lib.hid hK
  clear hb hT hk hcn hco hN hK
  gi_wp2
  gi_loopw [5] (fun vk wr => ∃ k : Nat, vk = .int .i64 (k : Int) ∧ k * 32 < len + 32 ∧ J (List.range k) wr ∧ KpB B g0 W wr) (fun vk _ => len + 1 - (intOf vk).toNat)
  case atStart => exact ⟨0, rfl, by omega, h0, ⟨Nat.le_refl _, fun _ _ _ => rfl⟩⟩
  case round =>
    obtain ⟨k, rfl, hk32, hJ, hkw⟩ := hrel
    have hcn := hkw.cell HCN.out hn1.1 hn1.2
    have hco := hkw.cell HCO.out hn2.1 hn2.2
    have hkr : TGRow wr Bk K := (hkw.2 Bk hn3.1 hn3.2).trans HKW.out
    have hbn : Bytes wr (fun _ => True) (.slice A 8 c) N := (HB.out.keep fun g _ hq => hkw.2 g hq.1 hq.2).mono fun _ _ _ => trivial
    have hTr := HT.out wr hkw
    have hBr : B ≤ wr.heap.size := Nat.le_trans hB hkw.1
    have HKW2 := Lib.hid hkw
    have HKR := Lib.hid hkr
    have HBN := Lib.hid hbn
    have HTR := Lib.hid hTr
    have HCO2 := Lib.hid hco
    clear hkw hkr hbn hTr
    by_cases hlt : k * 32 < len
    · have i1 : (k : Int) * 32 < (len : Int) := by omega
      gi_wp2_with fail
      refine wpIn_wide.2 ?_
      (try simp only [Act.put])
      go_cut [6] (fun s6 wx => Bytes wx (fun _ => True) s6 (strw ++ N ++ be8 k) ∧ Below wr.heap.size wr wx)
      case first =>
        have hk48 : k ≤ 281474976710656 := by omega
        have hcc : ∀ X, Below wr.heap.size wr X → (fun W : World => W.cell? ⟨Bo, 0, none⟩ = some (.slice A 8 c)) X := fun X hb => (hb.cell (p := ⟨Bo, 0, none⟩) (by show Bo < wr.heap.size; omega)).trans hco
        have HCC := Lib.hid hcc
        clear hcc
        have b0 : Below wr.heap.size wr wr.drew := Below.drew (Below.refl _ _)
        refine wp_region_held_drew (S := fun W : World => W.cell? ⟨Bo, 0, none⟩ = some (.slice A 8 c)) (by kernel_rfl) (HCC.out _ b0) (fun hHeld => ?_)
        generalize wr.drew = W0 at b0 hHeld ⊢
        apply wpAnyH_take (i := 2) rfl (by kernel_rfl) (by kernel_rfl) (by kernel_rfl)
        case hQ => exact fun _ _ _ h => h
        case hS => exact hHeld
        case hy => (refine Or.inl ⟨by rfl, ?_⟩; intro w hSw; (try go_split_ands); go_simp; (try with_reducible rfl))
        (try simp only [List.getElem_toArray, List.getElem_cons_succ, List.getElem_cons_zero, Act.put, List.setIfInBounds_toArray, List.set_cons_zero, List.set_cons_succ])
        apply wpAnyH_take (i := 3) rfl (by kernel_rfl) (by kernel_rfl) (by kernel_rfl)
        case hQ => exact fun _ _ _ h => h
        case hS => exact hHeld
        case hy => (refine Or.inl ⟨by rfl, ?_⟩; intro w hSw; (try go_split_ands); go_simp; (try with_reducible rfl))
        (try simp only [List.getElem_toArray, List.getElem_cons_succ, List.getElem_cons_zero, Act.put, List.setIfInBounds_toArray, List.set_cons_zero, List.set_cons_succ])
        refine wpAnyH_ready (rs := [0, 4]) (by kernel_rfl) (by simp) ?_
        refine AllReadyH.cons rfl (fun KK hKK => ?_) (AllReadyH.cons rfl (fun KK hKK => ?_) AllReadyH.nil)
        · (try simp only [List.getElem_toArray, List.getElem_cons_succ, List.getElem_cons_zero])
          go_simp
          obtain ⟨G, hG⟩ : ∃ G, G = W0.heap.size := ⟨_, rfl⟩
          obtain ⟨X1, hX1⟩ : ∃ x, x = W0.alloc (.cells #[.int .u8 115, .int .u8 116, .int .u8 114, .int .u8 101, .int .u8 97, .int .u8 109] 5) := ⟨_, rfl⟩
          have hx1 : Below W0.heap.size W0 X1 := by rw [hX1]; exact (Below.refl _ _).alloc (Nat.le_refl _) _
          have hGl : wr.heap.size ≤ G := by rw [hG]; exact Below.size b0
          have rw1 : Whole X1 G 5 #[.int .u8 115, .int .u8 116, .int .u8 114, .int .u8 101, .int .u8 97, .int .u8 109] := by rw [hX1, hG]; exact Whole.here _ _ _
          rw [← hX1]
          rw [← hG]
          clear hX1 hG
          have bb1 := Below.trans b0 (Below.mono hx1 (Below.size b0))
          refine hKK.out _ _ (HCC.out _ bb1) (fun hHeld => ?_)
          clear hKK KK
          (try simp only [List.getElem_toArray, List.getElem_cons_succ, List.getElem_cons_zero, Act.put, List.setIfInBounds_toArray, List.set_cons_zero, List.set_cons_succ])
          refine wpAnyH_ready (rs := [1, 4]) (by kernel_rfl) (by simp) ?_
          refine AllReadyH.cons rfl (fun KK hKK => ?_) (AllReadyH.cons rfl (fun KK hKK => ?_) AllReadyH.nil)
          · (try simp only [List.getElem_toArray, List.getElem_cons_succ, List.getElem_cons_zero])
            have hcv := conv_at X1 G #[.int .u8 115, .int .u8 116, .int .u8 114, .int .u8 101, .int .u8 97, .int .u8 109] 6 6 rw1
            go_simp
            obtain ⟨X2, hX2⟩ : ∃ x, x = marked G #[.int .u8 115, .int .u8 116, .int .u8 114, .int .u8 101, .int .u8 97, .int .u8 109] X1 := ⟨_, rfl⟩
            have bb2 : Below wr.heap.size wr X2 := by rw [hX2]; exact below_marked bb1 hGl
            have lab2 : Bytes X2 (fun g => wr.heap.size ≤ g) (.slice (some ⟨G, 0, none⟩) 6 6) strw := by rw [hX2]; exact bytes_marked rw1 strw_cells rfl (by omega) hGl
            rw [← hX2]
            clear hX2 hcv
            refine hKK.out _ _ (HCC.out _ bb2) (fun hHeld => ?_)
            clear hKK KK
            (try simp only [List.getElem_toArray, List.getElem_cons_succ, List.getElem_cons_zero, Act.put, List.setIfInBounds_toArray, List.set_cons_zero, List.set_cons_succ])
            refine wpAnyH_ready (rs := [4]) (by kernel_rfl) (by simp) ?_
            refine AllReadyH.cons rfl (fun KK hKK => ?_) AllReadyH.nil
            (try simp only [List.getElem_toArray, List.getElem_cons_succ, List.getElem_cons_zero])
            go_simp
            go_at_call 66
            refine (eight_ k hk48 X2).mono ?_
            rintro e X3 ⟨⟨v8, rfl, ee3⟩, hx3⟩
            obtain ⟨A8, c8, hv8, -⟩ := id ee3
            rw [be8_length] at hv8
            subst hv8
            have lab3 := Bytes.below lab2 hx3 (Nat.le_refl _)
            have bb3 := Below.trans bb2 (Below.mono hx3 (Below.size bb2))
            refine hKK.out _ _ (HCC.out _ bb3) (fun hHeld => ?_)
            clear hKK KK
            (try simp only [List.getElem_toArray, List.getElem_cons_succ, List.getElem_cons_zero, Act.put, List.setIfInBounds_toArray, List.set_cons_zero, List.set_cons_succ])
            refine wpAnyH_ready (rs := [5]) (by kernel_rfl) (by simp) ?_
            refine AllReadyH.cons rfl (fun KK hKK => ?_) AllReadyH.nil
            (try simp only [List.getElem_toArray, List.getElem_cons_succ, List.getElem_cons_zero])
            go_simp
            obtain ⟨X4, hX4⟩ : ∃ x, x = X3.alloc (.cells #[.slice (some ⟨G, 0, none⟩) 6 6, .slice A 8 c, .slice A8 8 c8] 39) := ⟨_, rfl⟩
            have hx4 : Below X3.heap.size X3 X4 := by rw [hX4]; exact (Below.refl _ _).alloc (Nat.le_refl _) _
            have hrow : Whole X4 X3.heap.size 39 #[.slice (some ⟨G, 0, none⟩) 6 6, .slice A 8 c, .slice A8 8 c8] := by rw [hX4]; exact Whole.here _ _ _
            have lab4 := Bytes.below lab3 hx4 (Nat.le_refl _)
            have e84 := Bytes.below ee3 hx4 (Nat.le_refl _)
            rw [← hX4]
            clear hX4
            have bb4 := Below.trans bb3 (Below.mono hx4 (Below.size bb3))
            refine hKK.out _ _ (HCC.out _ bb4) (fun hHeld => ?_)
            clear hKK KK
            (try simp only [List.getElem_toArray, List.getElem_cons_succ, List.getElem_cons_zero, Act.put, List.setIfInBounds_toArray, List.set_cons_zero, List.set_cons_succ])
            refine wpAnyH_ready (rs := [6]) (by kernel_rfl) (by simp) ?_
            refine AllReadyH.cons rfl (fun KK hKK => ?_) AllReadyH.nil
            (try simp only [List.getElem_toArray, List.getElem_cons_succ, List.getElem_cons_zero])
            go_simp
            go_at_call 65
            refine (concat3b (X3.heap.size) _ _ _ strw N (be8 k) _ _ _ X4 (hrow.cell 0) (hrow.cell 1) (hrow.cell 2) lab4 (Bytes.below HBN.out bb4 (Nat.le_refl _)) e84 (by decide) (by have := HNl.out; simp [strw, be8_length]; omega)).mono ?_
            rintro e X5 ⟨v9, rfl, m9, hx5⟩
            have bb5 := Below.trans bb4 (Below.mono hx5 (Below.size bb4))
            refine hKK.out _ _ (HCC.out _ bb5) (fun hHeld => ?_)
            clear hKK KK
            (try simp only [List.getElem_toArray, List.getElem_cons_succ, List.getElem_cons_zero, Act.put, List.setIfInBounds_toArray, List.set_cons_zero, List.set_cons_succ])
            apply wpAnyH_take (i := 7) rfl (by kernel_rfl) (by kernel_rfl) (by kernel_rfl)
            case hQ => exact fun _ _ _ h => h
            case hS => exact hHeld
            case hy => (refine Or.inl ⟨by rfl, ?_⟩; intro w hSw; (try go_split_ands); go_simp; (try with_reducible rfl))
            (try simp only [List.getElem_toArray, List.getElem_cons_succ, List.getElem_cons_zero, Act.put, List.setIfInBounds_toArray, List.set_cons_zero, List.set_cons_succ])
            refine wpAnyH_done (by kernel_rfl) ?_ _
            go_wp2_with fail
            go_meet
            exact ⟨by have := Below.size bb5; exact m9.mono fun _ _ _ => trivial, bb5⟩
          · (try simp only [List.getElem_toArray, List.getElem_cons_succ, List.getElem_cons_zero])
            go_simp
            go_at_call 66
            refine (eight_ k hk48 X1).mono ?_
            rintro e X6 ⟨⟨v8, rfl, ee6⟩, hx6⟩
            obtain ⟨A8, c8, hv8, -⟩ := id ee6
            rw [be8_length] at hv8
            subst hv8
            have row6 := Whole.below rw1 hx6 (Whole.lt rw1)
            have e86 := Bytes.mono (Q' := fun g => g ≠ G) ee6 fun g _ hq => by have := Whole.lt rw1; have : X1.heap.size ≤ g := hq; omega
            have bb6 := Below.trans bb1 (Below.mono hx6 (Below.size bb1))
            refine hKK.out _ _ (HCC.out _ bb6) (fun hHeld => ?_)
            clear hKK KK
            (try simp only [List.getElem_toArray, List.getElem_cons_succ, List.getElem_cons_zero, Act.put, List.setIfInBounds_toArray, List.set_cons_zero, List.set_cons_succ])
            refine wpAnyH_ready (rs := [1]) (by kernel_rfl) (by simp) ?_
            refine AllReadyH.cons rfl (fun KK hKK => ?_) AllReadyH.nil
            (try simp only [List.getElem_toArray, List.getElem_cons_succ, List.getElem_cons_zero])
            have hcv := conv_at X6 G #[.int .u8 115, .int .u8 116, .int .u8 114, .int .u8 101, .int .u8 97, .int .u8 109] 6 6 row6
            go_simp
            obtain ⟨X7, hX7⟩ : ∃ x, x = marked G #[.int .u8 115, .int .u8 116, .int .u8 114, .int .u8 101, .int .u8 97, .int .u8 109] X6 := ⟨_, rfl⟩
            have bb7 : Below wr.heap.size wr X7 := by rw [hX7]; exact below_marked bb6 hGl
            have lab7 : Bytes X7 (fun g => wr.heap.size ≤ g) (.slice (some ⟨G, 0, none⟩) 6 6) strw := by rw [hX7]; exact bytes_marked row6 strw_cells rfl (by omega) hGl
            have e87 := Bytes.keep (w' := X7) e86 fun g _ hq => by rw [hX7]; exact World.putObj_heap_other hq
            rw [← hX7]
            clear hX7 hcv
            refine hKK.out _ _ (HCC.out _ bb7) (fun hHeld => ?_)
            clear hKK KK
            (try simp only [List.getElem_toArray, List.getElem_cons_succ, List.getElem_cons_zero, Act.put, List.setIfInBounds_toArray, List.set_cons_zero, List.set_cons_succ])
            refine wpAnyH_ready (rs := [5]) (by kernel_rfl) (by simp) ?_
            refine AllReadyH.cons rfl (fun KK hKK => ?_) AllReadyH.nil
            (try simp only [List.getElem_toArray, List.getElem_cons_succ, List.getElem_cons_zero])
            go_simp
            obtain ⟨X8, hX8⟩ : ∃ x, x = X7.alloc (.cells #[.slice (some ⟨G, 0, none⟩) 6 6, .slice A 8 c, .slice A8 8 c8] 39) := ⟨_, rfl⟩
            have hx8 : Below X7.heap.size X7 X8 := by rw [hX8]; exact (Below.refl _ _).alloc (Nat.le_refl _) _
            have hrow : Whole X8 X7.heap.size 39 #[.slice (some ⟨G, 0, none⟩) 6 6, .slice A 8 c, .slice A8 8 c8] := by rw [hX8]; exact Whole.here _ _ _
            have lab8 := Bytes.below lab7 hx8 (Nat.le_refl _)
            have e88 := Bytes.below e87 hx8 (Nat.le_refl _)
            rw [← hX8]
            clear hX8
            have bb8 := Below.trans bb7 (Below.mono hx8 (Below.size bb7))
            refine hKK.out _ _ (HCC.out _ bb8) (fun hHeld => ?_)
            clear hKK KK
            (try simp only [List.getElem_toArray, List.getElem_cons_succ, List.getElem_cons_zero, Act.put, List.setIfInBounds_toArray, List.set_cons_zero, List.set_cons_succ])
            refine wpAnyH_ready (rs := [6]) (by kernel_rfl) (by simp) ?_
            refine AllReadyH.cons rfl (fun KK hKK => ?_) AllReadyH.nil
            (try simp only [List.getElem_toArray, List.getElem_cons_succ, List.getElem_cons_zero])
            go_simp
            go_at_call 65
            refine (concat3b (X7.heap.size) _ _ _ strw N (be8 k) _ _ _ X8 (hrow.cell 0) (hrow.cell 1) (hrow.cell 2) lab8 (Bytes.below HBN.out bb8 (Nat.le_refl _)) e88 (by decide) (by have := HNl.out; simp [strw, be8_length]; omega)).mono ?_
            rintro e X9 ⟨v9, rfl, m9, hx9⟩
            have bb9 := Below.trans bb8 (Below.mono hx9 (Below.size bb8))
            refine hKK.out _ _ (HCC.out _ bb9) (fun hHeld => ?_)
            clear hKK KK
            (try simp only [List.getElem_toArray, List.getElem_cons_succ, List.getElem_cons_zero, Act.put, List.setIfInBounds_toArray, List.set_cons_zero, List.set_cons_succ])
            apply wpAnyH_take (i := 7) rfl (by kernel_rfl) (by kernel_rfl) (by kernel_rfl)
            case hQ => exact fun _ _ _ h => h
            case hS => exact hHeld
            case hy => (refine Or.inl ⟨by rfl, ?_⟩; intro w hSw; (try go_split_ands); go_simp; (try with_reducible rfl))
            (try simp only [List.getElem_toArray, List.getElem_cons_succ, List.getElem_cons_zero, Act.put, List.setIfInBounds_toArray, List.set_cons_zero, List.set_cons_succ])
            refine wpAnyH_done (by kernel_rfl) ?_ _
            go_wp2_with fail
            go_meet
            exact ⟨by have := Below.size bb9; exact m9.mono fun _ _ _ => trivial, bb9⟩
        · (try simp only [List.getElem_toArray, List.getElem_cons_succ, List.getElem_cons_zero])
          go_simp
          go_at_call 66
          refine (eight_ k hk48 W0).mono ?_
          rintro e X10 ⟨⟨v8, rfl, ee10⟩, hx10⟩
          obtain ⟨A8, c8, hv8, -⟩ := id ee10
          rw [be8_length] at hv8
          subst hv8
          have bb10 := Below.trans b0 (Below.mono hx10 (Below.size b0))
          refine hKK.out _ _ (HCC.out _ bb10) (fun hHeld => ?_)
          clear hKK KK
          (try simp only [List.getElem_toArray, List.getElem_cons_succ, List.getElem_cons_zero, Act.put, List.setIfInBounds_toArray, List.set_cons_zero, List.set_cons_succ])
          refine wpAnyH_ready (rs := [0]) (by kernel_rfl) (by simp) ?_
          refine AllReadyH.cons rfl (fun KK hKK => ?_) AllReadyH.nil
          (try simp only [List.getElem_toArray, List.getElem_cons_succ, List.getElem_cons_zero])
          go_simp
          obtain ⟨G, hG⟩ : ∃ G, G = X10.heap.size := ⟨_, rfl⟩
          obtain ⟨X11, hX11⟩ : ∃ x, x = X10.alloc (.cells #[.int .u8 115, .int .u8 116, .int .u8 114, .int .u8 101, .int .u8 97, .int .u8 109] 5) := ⟨_, rfl⟩
          have hx11 : Below X10.heap.size X10 X11 := by rw [hX11]; exact (Below.refl _ _).alloc (Nat.le_refl _) _
          have hGl : wr.heap.size ≤ G := by rw [hG]; exact Below.size bb10
          have e811 := Bytes.below ee10 hx11 (Nat.le_refl _)
          have rw11 : Whole X11 G 5 #[.int .u8 115, .int .u8 116, .int .u8 114, .int .u8 101, .int .u8 97, .int .u8 109] := by rw [hX11, hG]; exact Whole.here _ _ _
          have e911 := Bytes.mono (Q' := fun g => g ≠ G) ee10 fun g hg _ => by rw [hG]; exact Nat.ne_of_lt hg
          have e811 := Bytes.below e911 hx11 (Nat.le_refl _)
          rw [← hX11]
          rw [← hG]
          clear hX11 hG
          have bb11 := Below.trans bb10 (Below.mono hx11 (Below.size bb10))
          refine hKK.out _ _ (HCC.out _ bb11) (fun hHeld => ?_)
          clear hKK KK
          (try simp only [List.getElem_toArray, List.getElem_cons_succ, List.getElem_cons_zero, Act.put, List.setIfInBounds_toArray, List.set_cons_zero, List.set_cons_succ])
          refine wpAnyH_ready (rs := [1]) (by kernel_rfl) (by simp) ?_
          refine AllReadyH.cons rfl (fun KK hKK => ?_) AllReadyH.nil
          (try simp only [List.getElem_toArray, List.getElem_cons_succ, List.getElem_cons_zero])
          have hcv := conv_at X11 G #[.int .u8 115, .int .u8 116, .int .u8 114, .int .u8 101, .int .u8 97, .int .u8 109] 6 6 rw11
          go_simp
          obtain ⟨X12, hX12⟩ : ∃ x, x = marked G #[.int .u8 115, .int .u8 116, .int .u8 114, .int .u8 101, .int .u8 97, .int .u8 109] X11 := ⟨_, rfl⟩
          have bb12 : Below wr.heap.size wr X12 := by rw [hX12]; exact below_marked bb11 hGl
          have lab12 : Bytes X12 (fun g => wr.heap.size ≤ g) (.slice (some ⟨G, 0, none⟩) 6 6) strw := by rw [hX12]; exact bytes_marked rw11 strw_cells rfl (by omega) hGl
          have e812 := Bytes.keep (w' := X12) e811 fun g _ hq => by rw [hX12]; exact World.putObj_heap_other hq
          rw [← hX12]
          clear hX12 hcv
          refine hKK.out _ _ (HCC.out _ bb12) (fun hHeld => ?_)
          clear hKK KK
          (try simp only [List.getElem_toArray, List.getElem_cons_succ, List.getElem_cons_zero, Act.put, List.setIfInBounds_toArray, List.set_cons_zero, List.set_cons_succ])
          refine wpAnyH_ready (rs := [5]) (by kernel_rfl) (by simp) ?_
          refine AllReadyH.cons rfl (fun KK hKK => ?_) AllReadyH.nil
          (try simp only [List.getElem_toArray, List.getElem_cons_succ, List.getElem_cons_zero])
          go_simp
          obtain ⟨X13, hX13⟩ : ∃ x, x = X12.alloc (.cells #[.slice (some ⟨G, 0, none⟩) 6 6, .slice A 8 c, .slice A8 8 c8] 39) := ⟨_, rfl⟩
          have hx13 : Below X12.heap.size X12 X13 := by rw [hX13]; exact (Below.refl _ _).alloc (Nat.le_refl _) _
          have hrow : Whole X13 X12.heap.size 39 #[.slice (some ⟨G, 0, none⟩) 6 6, .slice A 8 c, .slice A8 8 c8] := by rw [hX13]; exact Whole.here _ _ _
          have lab13 := Bytes.below lab12 hx13 (Nat.le_refl _)
          have e813 := Bytes.below e812 hx13 (Nat.le_refl _)
          rw [← hX13]
          clear hX13
          have bb13 := Below.trans bb12 (Below.mono hx13 (Below.size bb12))
          refine hKK.out _ _ (HCC.out _ bb13) (fun hHeld => ?_)
          clear hKK KK
          (try simp only [List.getElem_toArray, List.getElem_cons_succ, List.getElem_cons_zero, Act.put, List.setIfInBounds_toArray, List.set_cons_zero, List.set_cons_succ])
          refine wpAnyH_ready (rs := [6]) (by kernel_rfl) (by simp) ?_
          refine AllReadyH.cons rfl (fun KK hKK => ?_) AllReadyH.nil
          (try simp only [List.getElem_toArray, List.getElem_cons_succ, List.getElem_cons_zero])
          go_simp
          go_at_call 65
          refine (concat3b (X12.heap.size) _ _ _ strw N (be8 k) _ _ _ X13 (hrow.cell 0) (hrow.cell 1) (hrow.cell 2) lab13 (Bytes.below HBN.out bb13 (Nat.le_refl _)) e813 (by decide) (by have := HNl.out; simp [strw, be8_length]; omega)).mono ?_
          rintro e X14 ⟨v9, rfl, m9, hx14⟩
          have bb14 := Below.trans bb13 (Below.mono hx14 (Below.size bb13))
          refine hKK.out _ _ (HCC.out _ bb14) (fun hHeld => ?_)
          clear hKK KK
          (try simp only [List.getElem_toArray, List.getElem_cons_succ, List.getElem_cons_zero, Act.put, List.setIfInBounds_toArray, List.set_cons_zero, List.set_cons_succ])
          apply wpAnyH_take (i := 7) rfl (by kernel_rfl) (by kernel_rfl) (by kernel_rfl)
          case hQ => exact fun _ _ _ h => h
          case hS => exact hHeld
          case hy => (refine Or.inl ⟨by rfl, ?_⟩; intro w hSw; (try go_split_ands); go_simp; (try with_reducible rfl))
          (try simp only [List.getElem_toArray, List.getElem_cons_succ, List.getElem_cons_zero, Act.put, List.setIfInBounds_toArray, List.set_cons_zero, List.set_cons_succ])
          refine wpAnyH_done (by kernel_rfl) ?_ _
          go_wp2_with fail
          go_meet
          exact ⟨by have := Below.size bb14; exact m9.mono fun _ _ _ => trivial, bb14⟩
      case rest =>
        obtain ⟨hm, hbx⟩ := hcut
        rename World => wc
        have hswc : wr.heap.size ≤ wc.heap.size := hbx.size
        have hJc := gJ _ _ _ hJ hbx
        obtain ⟨E, hE⟩ : ∃ E, E = sblk K N k := ⟨_, rfl⟩
        have hlE : E.length = 32 := by rw [hE]; exact sblk_length _ _ _
        have hby := Whole.bytes (Whole.below HKR.out hbx (Whole.lt HKR.out)) (by have := HKl.out; omega)
        rw [HKl.out] at hby
        have hmx := hof _ _ K (strw ++ N ++ be8 k) _ _ wc hby hm (HTR.out.below (Nat.le_refl _) hbx) (by have := HKl.out; omega) (by have := HNl.out; simp [strw, be8_length]; omega)
        rw [show hmac K (strw ++ N ++ be8 k) = E from hE.symm] at hmx
        obtain ⟨Am, cm, hv6, -⟩ := id hm
        have hml : (strw ++ N ++ be8 k).length = 22 := by have := HNl.out; simp [strw, be8_length]; omega
        rw [hml] at hv6
        subst hv6
        have HKC : Hid (KpB B g0 W wc) := Lib.hid (HKW2.out.trans (KpB.below hbx hBr))
        have hst := fun g W => run_sliceAt_whole (P := Tryd.prog) (t := 28) (e := 5) (n := 32) Tryd.underlying28 (by kernel_rfl) g W
        have HM := Lib.hid hmx
        have HE := Lib.hid hE
        have hk1 : ((k + 1 : Nat) : Int) = (k : Int) + 1 := by omega
        clear hm hbx hby hmx hml hE hcn hco hk1
        gi_wp2_with (refine ⟨trivial, ?_⟩; gi_at_call 62; refine (callsIn_wide.2 HM.out).mono ?_; rintro e1 w1 ⟨rfl, hb1⟩; obtain ⟨fn, tmps, assign, body, hy, hR⟩ := hY (List.range k) k w1 (gJ _ _ _ hJc hb1) hlt (by simp; omega); (try rw [← HE.out] at hy); dsimp only [senc] at hy; rw [← HE.out] at hy)
        refine hR.mono ?_
        have hKC1 : KpB B g0 W w1 := HKC.out.trans (KpB.below hb1 (by omega))
        rintro e2 W3 (⟨rfl, hJ3, hk3⟩ | ⟨rfl, hJx3⟩)
        · gi_wp2
          go_roundw
          case rel => exact ⟨k + 1, by go_num, by omega, by rw [List.range_succ]; exact hJ3, hKC1.trans hk3⟩
          case measure => simp [intOf]; omega
        · gi_wp2
          refine bodyPost_ret (results_none rfl _ _ _) rfl ?_
          exact ⟨⟨_, rfl⟩, .inr ⟨_, trivial, hJx3⟩⟩
    · gi_wp2
      go_end0
      exact ⟨⟨_, rfl⟩, .inl ⟨List.range k, ⟨k, rfl, by omega, hk32⟩, hJ⟩⟩
end Go.Proofs.YteekdhcffiaaaaaDoor
