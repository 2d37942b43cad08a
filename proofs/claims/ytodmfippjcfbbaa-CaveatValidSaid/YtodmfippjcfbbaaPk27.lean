/-
  The law CaveatValid.
-/
import Derived.Deep.CutBlock
import Derived.Deep.DeepCutAuto
import Derived.Test.YtodmfippjcfbbaaPk17
import Derived.Test.YtodmfippjcfbbaaPk19
import Derived.Test.YtodmfippjcfbbaaPk12
import Derived.Test.YtodmfippjcfbbaaPk20
import Derived.Test.YtodmfippjcfbbaaPk23
import Derived.Test.YtodmfippjcfbbaaPk24
import Derived.Test.YtodmfippjcfbbaaPk26
namespace Go.Proofs.Ytodmfippjcfbbaa
open Go Go.RowKit Sh Leaf

/-- A caveat in a block of its own, its bytes not in the deck's block. -/
def HeldC (W : World) (g G : Nat) (c : Cav) (A1 A2 : Option Addr) (c1 c2 : Nat) : Prop := G ≠ g ∧ CvRow W G c.third c.first c.party (.slice A1 c.ticket.length c1) (.slice A2 c.box.length c2) ∧ Bytes W (fun b => b ≠ g) (.slice A1 c.ticket.length c1) c.ticket ∧ Bytes W (fun b => b ≠ g) (.slice A2 c.box.length c2) c.box ∧ Cwf c
section
variable {W W' : World} {g G : Nat} {c : Cav} {A1 A2 : Option Addr} {c1 c2 : Nat}
theorem HeldC.below (h : HeldC W g G c A1 A2 c1 c2) (hb : Below W.heap.size W W') : HeldC W' g G c A1 A2 c1 c2 := ⟨h.1, Whole.below h.2.1 hb h.2.1.lt, h.2.2.1.below hb (Nat.le_refl _), h.2.2.2.1.below hb (Nat.le_refl _), h.2.2.2.2⟩
theorem HeldC.turn (h : HeldC W g G c A1 A2 c1 c2) (ht : Turn g W W') : HeldC W' g G c A1 A2 c1 c2 := ⟨h.1, ht.2.2.oth _ _ _ h.1 h.2.1, h.2.2.1.oth ht.2.2 fun _ hq => hq, h.2.2.2.1.oth ht.2.2 fun _ hq => hq, h.2.2.2.2⟩
theorem HeldC.row (h : HeldC W g G c A1 A2 c1 c2) : CvRow W G c.third c.first c.party (.slice A1 c.ticket.length c1) (.slice A2 c.box.length c2) := h.2.1
theorem HeldC.lt (h : HeldC W g G c A1 A2 c1 c2) : G < W.heap.size := h.2.1.lt
theorem HeldC.range (h : HeldC W g G c A1 A2 c1 c2) : W.rangeAt G 0 [.bool c.third, .int .i64 c.first.kind, .int .u64 (c.first.mask : Int), .int .i64 c.first.lo, .int .i64 c.first.hi, .string (sof c.first.name), .int .i64 c.first.num, .int .i64 c.party, .slice A1 c.ticket.length c1, .slice A2 c.box.length c2] := cav_range h.2.1
theorem HeldC.val (h : HeldC W g G c A1 A2 c1 c2) : CavV W (fun b => b ≠ g) (.agg (cvrow c.third c.first c.party (.slice A1 c.ticket.length c1) (.slice A2 c.box.length c2))) c := ⟨A1, c1, A2, c2, rfl, h.2.2.1, h.2.2.2.1, h.2.2.2.2⟩
end
theorem cvs4 {W : World} {g : Nat} {x c d y : Cav} {X1 X2 A1 A2 D1 D2 Y1 Y2 : Option Addr} {x1 x2 a1 a2 d1 d2 y1 y2 : Nat} (h : Whole W g 27 #[.bool x.third, .int .i64 x.first.kind, .int .u64 (x.first.mask : Int), .int .i64 x.first.lo, .int .i64 x.first.hi, .string (sof x.first.name), .int .i64 x.first.num, .int .i64 x.party, .slice X1 x.ticket.length x1, .slice X2 x.box.length x2, .bool c.third, .int .i64 c.first.kind, .int .u64 (c.first.mask : Int), .int .i64 c.first.lo, .int .i64 c.first.hi, .string (sof c.first.name), .int .i64 c.first.num, .int .i64 c.party, .slice A1 c.ticket.length a1, .slice A2 c.box.length a2, .bool d.third, .int .i64 d.first.kind, .int .u64 (d.first.mask : Int), .int .i64 d.first.lo, .int .i64 d.first.hi, .string (sof d.first.name), .int .i64 d.first.num, .int .i64 d.party, .slice D1 d.ticket.length d1, .slice D2 d.box.length d2, .bool y.third, .int .i64 y.first.kind, .int .u64 (y.first.mask : Int), .int .i64 y.first.lo, .int .i64 y.first.hi, .string (sof y.first.name), .int .i64 y.first.num, .int .i64 y.party, .slice Y1 y.ticket.length y1, .slice Y2 y.box.length y2])
    (hx1 : Bytes W (fun _ => True) (.slice X1 x.ticket.length x1) x.ticket) (hx2 : Bytes W (fun _ => True) (.slice X2 x.box.length x2) x.box) (hx3 : Cwf x)
    (hc1 : Bytes W (fun _ => True) (.slice A1 c.ticket.length a1) c.ticket) (hc2 : Bytes W (fun _ => True) (.slice A2 c.box.length a2) c.box) (hc3 : Cwf c)
    (hd1 : Bytes W (fun _ => True) (.slice D1 d.ticket.length d1) d.ticket) (hd2 : Bytes W (fun _ => True) (.slice D2 d.box.length d2) d.box) (hd3 : Cwf d)
    (hy1 : Bytes W (fun _ => True) (.slice Y1 y.ticket.length y1) y.ticket) (hy2 : Bytes W (fun _ => True) (.slice Y2 y.box.length y2) y.box) (hy3 : Cwf y)
    : Cvs W (some ⟨g, 0, none⟩) [x, c, d, y] := fun i e he => by
  match i, he with
  | 0, he =>
    injection he with he
    subst he
    refine ⟨g, 0, X1, x1, X2, x2, rfl, h.lt, fun j v hv => ?_, hx1, hx2, hx3⟩
    match j, hv with
    | 0, hv => exact (Whole.cell h 0).trans hv
    | 1, hv => exact (Whole.cell h 1).trans hv
    | 2, hv => exact (Whole.cell h 2).trans hv
    | 3, hv => exact (Whole.cell h 3).trans hv
    | 4, hv => exact (Whole.cell h 4).trans hv
    | 5, hv => exact (Whole.cell h 5).trans hv
    | 6, hv => exact (Whole.cell h 6).trans hv
    | 7, hv => exact (Whole.cell h 7).trans hv
    | 8, hv => exact (Whole.cell h 8).trans hv
    | 9, hv => exact (Whole.cell h 9).trans hv
    | n + 10, hv => simp at hv
  | 1, he =>
    injection he with he
    subst he
    refine ⟨g, 0, A1, a1, A2, a2, rfl, h.lt, fun j v hv => ?_, hc1, hc2, hc3⟩
    match j, hv with
    | 0, hv => exact (Whole.cell h 10).trans hv
    | 1, hv => exact (Whole.cell h 11).trans hv
    | 2, hv => exact (Whole.cell h 12).trans hv
    | 3, hv => exact (Whole.cell h 13).trans hv
    | 4, hv => exact (Whole.cell h 14).trans hv
    | 5, hv => exact (Whole.cell h 15).trans hv
    | 6, hv => exact (Whole.cell h 16).trans hv
    | 7, hv => exact (Whole.cell h 17).trans hv
    | 8, hv => exact (Whole.cell h 18).trans hv
    | 9, hv => exact (Whole.cell h 19).trans hv
    | n + 10, hv => simp at hv
  | 2, he =>
    injection he with he
    subst he
    refine ⟨g, 0, D1, d1, D2, d2, rfl, h.lt, fun j v hv => ?_, hd1, hd2, hd3⟩
    match j, hv with
    | 0, hv => exact (Whole.cell h 20).trans hv
    | 1, hv => exact (Whole.cell h 21).trans hv
    | 2, hv => exact (Whole.cell h 22).trans hv
    | 3, hv => exact (Whole.cell h 23).trans hv
    | 4, hv => exact (Whole.cell h 24).trans hv
    | 5, hv => exact (Whole.cell h 25).trans hv
    | 6, hv => exact (Whole.cell h 26).trans hv
    | 7, hv => exact (Whole.cell h 27).trans hv
    | 8, hv => exact (Whole.cell h 28).trans hv
    | 9, hv => exact (Whole.cell h 29).trans hv
    | n + 10, hv => simp at hv
  | 3, he =>
    injection he with he
    subst he
    refine ⟨g, 0, Y1, y1, Y2, y2, rfl, h.lt, fun j v hv => ?_, hy1, hy2, hy3⟩
    match j, hv with
    | 0, hv => exact (Whole.cell h 30).trans hv
    | 1, hv => exact (Whole.cell h 31).trans hv
    | 2, hv => exact (Whole.cell h 32).trans hv
    | 3, hv => exact (Whole.cell h 33).trans hv
    | 4, hv => exact (Whole.cell h 34).trans hv
    | 5, hv => exact (Whole.cell h 35).trans hv
    | 6, hv => exact (Whole.cell h 36).trans hv
    | 7, hv => exact (Whole.cell h 37).trans hv
    | 8, hv => exact (Whole.cell h 38).trans hv
    | 9, hv => exact (Whole.cell h 39).trans hv
    | n + 10, hv => simp at hv
  | n + 4, he => simp at he
theorem cval_part {w : World} {Q : Nat → Prop} {c : Cav} {A1 A2 : Option Addr} {c1 c2 : Nat} (h1 : Bytes w Q (.slice A1 c.ticket.length c1) c.ticket) (h2 : Bytes w Q (.slice A2 c.box.length c2) c.box) (h3 : Cwf c) : CavV w Q (.agg (cvrow c.third c.first c.party (.slice A1 c.ticket.length c1) (.slice A2 c.box.length c2))) c := ⟨A1, c1, A2, c2, rfl, h1, h2, h3⟩
set_option linter.unusedSimpArgs false in
set_option linter.unusedVariables false in
set_option maxRecDepth 100000 in
set_option maxHeartbeats 8000000 in
theorem cval_law {Q1 Q2 : Nat → Prop} (th : Bool) (p : Prd) (pa : Int) (A1 : Option Addr) (x : List B8) (c1 : Nat) (A2 : Option Addr) (y : List B8) (c2 : Nat) (A3 : Option Addr) (l3 : List Int) (c3 : Nat) (A4 : Option Addr) (l4 : List Int) (c4 : Nat) (hw : Nat) (hhw : hw < 256) (z : Int) (hz : -9223372036854775808 ≤ z ∧ z ≤ 9223372036854775807) (w : World)
    (hB1 : Bytes w Q1 (.slice A1 x.length c1) x) (hB2 : Bytes w Q2 (.slice A2 y.length c2) y) (hm : p.mask < 18446744073709551616) (hn : p.name.length ≤ 9223372036854775807) (hI : Ints w (fun b => b < w.heap.size) A3 c3 l3) (hJ : Ints w (fun b => b < w.heap.size) A4 c4 l4) :
    Calls Try.prog 3 #[.agg (cvrow th p pa (.slice A1 x.length c1) (.slice A2 y.length c2)), .slice A3 l3.length c3, .slice A4 l4.length c4, .int .u8 (hw : Int), .int .i64 z] w fun e w' => e = .returned (.bool true) ∧ Below w.heap.size w w' := by
  obtain ⟨p0, hp0⟩ : ∃ q, q = w.alloc (.cells (cvrow th p pa (.slice A1 x.length c1) (.slice A2 y.length c2)) 27) := ⟨_, rfl⟩
  have hr : CvRow p0 w.heap.size th p pa (.slice A1 x.length c1) (.slice A2 y.length c2) := by rw [hp0]; exact Whole.here _ _ _
  have hb : Below w.heap.size w p0 := by rw [hp0]; exact (Below.refl _ _).alloc (Nat.le_refl _) _
  have hps : w.heap.size < p0.heap.size := hr.lt
  have b1 := (hB1.mono (Q' := fun q => q < w.heap.size) fun q hq _ => hq).below hb (Nat.le_refl _)
  have b2 := (hB2.mono (Q' := fun q => q < w.heap.size) fun q hq _ => hq).below hb (Nat.le_refl _)
  have hcl := cfew th p pa A1 x c1 A2 y c2 b1 b2
  have t1 := b1.cut 1100
  have t2 := b2.cut 1100
  have hx1 : (x.take 1100).length ≤ 5000 := by rw [List.length_take]; omega
  have hx2 : (y.take 1100).length ≤ 5000 := by rw [List.length_take]; omega
  obtain ⟨c, hc⟩ : ∃ c : Cav, c = ⟨th, p, pa, x.take 1100, y.take 1100⟩ := ⟨_, rfl⟩
  have hcl : Calls Try.prog 4 #[.agg (cvrow th p pa (.slice A1 x.length c1) (.slice A2 y.length c2))] p0 fun e w' => e = .returned (.agg (cvrow c.third c.first c.party (.slice A1 c.ticket.length c1) (.slice A2 c.box.length c2))) ∧ Below p0.heap.size p0 w' := by rw [hc]; exact hcl
  have k1 : Bytes p0 (fun q => q < w.heap.size) (.slice A1 c.ticket.length c1) c.ticket := by rw [hc]; exact t1
  have k2 : Bytes p0 (fun q => q < w.heap.size) (.slice A2 c.box.length c2) c.box := by rw [hc]; exact t2
  have hcw : Cwf c := by rw [hc]; exact ⟨hm, hn, hx1, hx2⟩
  clear hc t1 t2 hx1 hx2 hm hn b1 b2 hB1 hB2
  obtain ⟨nx, hnx⟩ : ∃ n, n = x.length := ⟨_, rfl⟩
  obtain ⟨ny, hny⟩ : ∃ n, n = y.length := ⟨_, rfl⟩
  rw [← hnx, ← hny] at hcl hr hp0
  rw [← hnx, ← hny]
  obtain ⟨n3, hn3⟩ : ∃ n, n = l3.length := ⟨_, rfl⟩
  obtain ⟨n4, hn4⟩ : ∃ n, n = l4.length := ⟨_, rfl⟩
  rw [← hn3, ← hn4]
  have HN3 := Lib.hid hn3
  have HN4 := Lib.hid hn4
  have HK1 := Lib.hid k1
  have HK2 := Lib.hid k2
  have HCW := Lib.hid hcw
  have HR := Lib.hid hr
  have HB := Lib.hid hb
  have HI := Lib.hid hI
  have HJ := Lib.hid hJ
  have HZ := Lib.hid (And.intro hz hhw)
  clear hnx hny hn3 hn4 k1 k2 hcw hr hb hI hJ hz hhw
  go_enter Try.func3, Try.ntmps3
  go_upto_region 1 with fail
  rw [← hp0]
  clear hp0
  go_wp2_with (with_reducible refine wpList_load_cav rfl _ rfl rfl HR.out ?_)
  refine hcl.mono ?_
  rintro e w1 ⟨rfl, hb1⟩
  clear hcl
  have hs1 : p0.heap.size ≤ w1.heap.size := hb1.size
  have HR1 := Lib.hid (Whole.below HR.out hb1 HR.out.lt)
  obtain ⟨w2, hw2⟩ : ∃ q, q = w1.setRow w.heap.size (cvrow c.third c.first c.party (.slice A1 c.ticket.length c1) (.slice A2 c.box.length c2)) := ⟨_, rfl⟩
  have hr2 : CvRow w2 w.heap.size c.third c.first c.party (.slice A1 c.ticket.length c1) (.slice A2 c.box.length c2) := by rw [hw2]; exact Whole.setRow HR1.out _
  have hb2 : Below w.heap.size w w2 := by rw [hw2]; exact below_setRow (HB.out.trans (hb1.mono (Nat.le_of_lt hps))) (Nat.le_refl _) _
  have k1 : Bytes w2 (fun q => q < w.heap.size) (.slice A1 c.ticket.length c1) c.ticket := by rw [hw2]; exact (HK1.out.below hb1 (Nat.le_refl _)).setRow (fun q hq => by omega) _
  have k2 : Bytes w2 (fun q => q < w.heap.size) (.slice A2 c.box.length c2) c.box := by rw [hw2]; exact (HK2.out.below hb1 (Nat.le_refl _)).setRow (fun q hq => by omega) _
  have hs2 : w1.heap.size ≤ w2.heap.size := by rw [hw2]; simp
  have hc2 : HeldC w2 w2.heap.size w.heap.size c A1 A2 c1 c2 := ⟨by omega, hr2, k1.mono fun b hb _ => by omega, k2.mono fun b hb _ => by omega, HCW.out⟩
  have HW2 := Lib.hid hw2
  have HC2 := Lib.hid hc2
  have HB2 := Lib.hid hb2
  have hgl := hc2.lt
  clear hw2 hr2 hb2 k1 k2 hc2 hb1 HK1 HK2 HB HR
  go_upto_region 2 with (with_reducible refine wpList_store_cav rfl _ _ rfl (g := w.heap.size) rfl rfl HR1.out rfl ?_)
  rw [← HW2.out]
  clear HW2 HR1
  have hcl := dnew A3 n3 c3 l3 w2 HN3.out ((HI.out.below HB2.out).mono HB2.out.size)
  go_wp2_with fail
  refine hcl.mono ?_
  rintro e w3 ⟨rfl, hdk, hb3⟩
  clear hcl HI HN3
  have hs3 : w2.heap.size < w3.heap.size := hdk.lt
  have HC3 := Lib.hid (HC2.out.below hb3)
  have HB3 := Lib.hid (HB2.out.trans (hb3.mono (by omega)))
  obtain ⟨g, hg⟩ : ∃ g, g = w2.heap.size := ⟨_, rfl⟩
  rw [← hg] at hdk hs3 HC3 ⊢
  have hgw : w.heap.size < g := by omega
  have hcl := dcav g w3 hdk
  clear hb3 HC2 HB2 hg hdk
  go_wp2_with fail
  refine hcl.mono ?_
  rintro e w4 ⟨⟨v, xc, rfl, hxok, hV⟩, ht⟩
  clear hcl
  obtain ⟨X1, x1, X2, x2, rfl, hx1, hx2, hxw⟩ := hV
  have hs4 : w3.heap.size ≤ w4.heap.size := ht.2.1.size
  obtain ⟨w5, hw5⟩ : ∃ q, q = w4.alloc (.cells (cvrow xc.third xc.first xc.party (.slice X1 xc.ticket.length x1) (.slice X2 xc.box.length x2)) 27) := ⟨_, rfl⟩
  have hb5 : Below w4.heap.size w4 w5 := by rw [hw5]; exact (Below.refl _ _).alloc (Nat.le_refl _) _
  have hx5 : HeldC w5 g w4.heap.size xc X1 X2 x1 x2 := ⟨by omega, by rw [hw5]; exact Whole.here _ _ _, (hx1.mono fun b _ hb => by omega).below hb5 (Nat.le_refl _), (hx2.mono fun b _ hb => by omega).below hb5 (Nat.le_refl _), hxw⟩
  have hs5 : w4.heap.size < w5.heap.size := hx5.lt
  have HC5 := Lib.hid ((HC3.out.turn ht).below hb5)
  have HX5 := Lib.hid hx5
  have HB5 := Lib.hid ((HB3.out.trans (ht.2.1.mono (by omega))).trans (hb5.mono (by omega)))
  have HD5 := Lib.hid (ht.1.below hb5 (by omega))
  have HXOK := Lib.hid hxok
  have HW5 := Lib.hid hw5
  have hcl := cspoilt hx5.val hw HZ.out.2 z HZ.out.1
  clear hw5 hb5 hx5 hx1 hx2 hxw hxok ht HC3 HB3
  go_upto_region 4 with fail
  rw [← HW5.out]
  clear HW5
  go_wp2_with (with_reducible refine wpList_load_cav rfl _ rfl rfl HX5.out.row ?_)
  refine hcl.mono ?_
  rintro e w6 ⟨⟨v, yc, rfl, hV⟩, hb6⟩
  clear hcl
  obtain ⟨Y1, y1, Y2, y2, rfl, hy1, hy2, hyw⟩ := hV
  have hs6 : w5.heap.size ≤ w6.heap.size := hb6.size
  obtain ⟨w7, hw7⟩ : ∃ q, q = w6.alloc (.cells (cvrow yc.third yc.first yc.party (.slice Y1 yc.ticket.length y1) (.slice Y2 yc.box.length y2)) 27) := ⟨_, rfl⟩
  have hb7 : Below w6.heap.size w6 w7 := by rw [hw7]; exact (Below.refl _ _).alloc (Nat.le_refl _) _
  have hy7 : HeldC w7 g w6.heap.size yc Y1 Y2 y1 y2 := ⟨by omega, by rw [hw7]; exact Whole.here _ _ _, (hy1.mono fun b _ hb => by rcases hb with hb | hb; exact hb; omega).below hb7 (Nat.le_refl _), (hy2.mono fun b _ hb => by rcases hb with hb | hb; exact hb; omega).below hb7 (Nat.le_refl _), hyw⟩
  have hs7 : w6.heap.size < w7.heap.size := hy7.lt
  have HC7 := Lib.hid ((HC5.out.below hb6).below hb7)
  have HX7 := Lib.hid ((HX5.out.below hb6).below hb7)
  have HY7 := Lib.hid hy7
  have HB7 := Lib.hid ((HB5.out.trans (hb6.mono (by omega))).trans (hb7.mono (by omega)))
  have HD7 := Lib.hid ((HD5.out.below hb6 (by omega)).below hb7 (by omega))
  have HW7 := Lib.hid hw7
  clear hw7 hb7 hy7 hy1 hy2 hyw hb6 HC5 HX5 HB5 HD5 HZ
  obtain ⟨gx, hgx⟩ : ∃ g, g = w4.heap.size := ⟨_, rfl⟩
  obtain ⟨gy, hgy⟩ : ∃ g, g = w6.heap.size := ⟨_, rfl⟩
  go_upto_region 5 with fail
  rw [← HW7.out]
  rw [← hgx] at HX7
  rw [← hgy] at HY7
  rw [← hgx, ← hgy]
  clear HW7 hgx hgy
  have hlx := HX7.out.lt
  have hly := HY7.out.lt
  have hb0 : Below w7.heap.size w7 w7.drew := (Below.refl _ _).drew
  have HC0 := Lib.hid (HC7.out.below hb0)
  have HX0 := Lib.hid (HX7.out.below hb0)
  have HY0 := Lib.hid (HY7.out.below hb0)
  have HD0 := Lib.hid (HD7.out.drew)
  have HB0 := Lib.hid (HB7.out.drew)
  have hs0 : w7.heap.size ≤ w7.drew.heap.size := hb0.size
  clear HC7 HX7 HY7 HD7 HB7 hb0
  refine wp_region_held_drew (S := fun W : World => W.rangeAt gx 0 [.bool xc.third, .int .i64 xc.first.kind, .int .u64 (xc.first.mask : Int), .int .i64 xc.first.lo, .int .i64 xc.first.hi, .string (sof xc.first.name), .int .i64 xc.first.num, .int .i64 xc.party, .slice X1 xc.ticket.length x1, .slice X2 xc.box.length x2] ∧ W.rangeAt w.heap.size 0 [.bool c.third, .int .i64 c.first.kind, .int .u64 (c.first.mask : Int), .int .i64 c.first.lo, .int .i64 c.first.hi, .string (sof c.first.name), .int .i64 c.first.num, .int .i64 c.party, .slice A1 c.ticket.length c1, .slice A2 c.box.length c2] ∧ W.rangeAt gy 0 [.bool yc.third, .int .i64 yc.first.kind, .int .u64 (yc.first.mask : Int), .int .i64 yc.first.lo, .int .i64 yc.first.hi, .string (sof yc.first.name), .int .i64 yc.first.num, .int .i64 yc.party, .slice Y1 yc.ticket.length y1, .slice Y2 yc.box.length y2]) (by kernel_rfl) (⟨HX0.out.range, HC0.out.range, HY0.out.range⟩) (fun hHeld => ?_)
  generalize w7.drew = W0 at HC0 HX0 HY0 HD0 HB0 hs0 hHeld ⊢
  apply wpAnyH_take (i := 0) rfl (by kernel_rfl) (by kernel_rfl) (by kernel_rfl)
  case hQ => exact fun _ _ _ h => h
  case hS => exact hHeld
  case hy => exact yieldsIf_load_mid (by rfl) 27 _ rfl gx (0) rfl ([.bool xc.third, .int .i64 xc.first.kind, .int .u64 (xc.first.mask : Int), .int .i64 xc.first.lo, .int .i64 xc.first.hi, .string (sof xc.first.name), .int .i64 xc.first.num, .int .i64 xc.party, .slice X1 xc.ticket.length x1, .slice X2 xc.box.length x2]) _ (fun w hS => hS.1) Try.underlying27 rfl (by rw [cavSize]; rfl)
  (try simp only [List.getElem_toArray, List.getElem_cons_zero, Act.put, List.setIfInBounds_toArray, List.set_cons_zero, List.set_cons_succ])
  apply wpAnyH_take (i := 1) rfl (by kernel_rfl) (by kernel_rfl) (by kernel_rfl)
  case hQ => exact fun _ _ _ h => h
  case hS => exact hHeld
  case hy => exact yieldsIf_load_mid (by rfl) 27 _ rfl w.heap.size (0) rfl ([.bool c.third, .int .i64 c.first.kind, .int .u64 (c.first.mask : Int), .int .i64 c.first.lo, .int .i64 c.first.hi, .string (sof c.first.name), .int .i64 c.first.num, .int .i64 c.party, .slice A1 c.ticket.length c1, .slice A2 c.box.length c2]) _ (fun w hS => hS.2.1) Try.underlying27 rfl (by rw [cavSize]; rfl)
  (try simp only [List.getElem_toArray, List.getElem_cons_succ, List.getElem_cons_zero, Act.put, List.setIfInBounds_toArray, List.set_cons_zero, List.set_cons_succ])
  apply wpAnyH_take (i := 2) rfl (by kernel_rfl) (by kernel_rfl) (by kernel_rfl)
  case hQ => exact fun _ _ _ h => h
  case hS => exact hHeld
  case hy => (refine Or.inl ⟨by rfl, ?_⟩; intro w hSw; (try go_split_ands); go_simp; (try with_reducible rfl))
  (try simp only [List.getElem_toArray, List.getElem_cons_succ, List.getElem_cons_zero, Act.put, List.setIfInBounds_toArray, List.set_cons_zero, List.set_cons_succ])
  apply wpAnyH_take (i := 4) rfl (by kernel_rfl) (by kernel_rfl) (by kernel_rfl)
  case hQ => exact fun _ _ _ h => h
  case hS => exact hHeld
  case hy => exact yieldsIf_load_mid (by rfl) 27 _ rfl gy (0) rfl ([.bool yc.third, .int .i64 yc.first.kind, .int .u64 (yc.first.mask : Int), .int .i64 yc.first.lo, .int .i64 yc.first.hi, .string (sof yc.first.name), .int .i64 yc.first.num, .int .i64 yc.party, .slice Y1 yc.ticket.length y1, .slice Y2 yc.box.length y2]) _ (fun w hS => hS.2.2) Try.underlying27 rfl (by rw [cavSize]; rfl)
  (try simp only [List.getElem_toArray, List.getElem_cons_succ, List.getElem_cons_zero, Act.put, List.setIfInBounds_toArray, List.set_cons_zero, List.set_cons_succ])
  refine wpAnyH_ready (rs := [3]) (by kernel_rfl) (by simp) ?_
  refine AllReadyH.cons rfl (fun KK hKK => ?_) AllReadyH.nil
  (try simp only [List.getElem_toArray, List.getElem_cons_succ, List.getElem_cons_zero])
  go_simp
  go_at_call 6
  refine (dcav g W0 HD0.out).mono ?_
  rintro e V1 ⟨⟨v, dc, rfl, -, hV⟩, ht⟩
  obtain ⟨D1, d1, D2, d2, rfl, hd1, hd2, hdw⟩ := hV
  have hs8 : W0.heap.size ≤ V1.heap.size := ht.2.1.size
  have HC1 := Lib.hid (HC0.out.turn ht)
  have HX1 := Lib.hid (HX0.out.turn ht)
  have HY1 := Lib.hid (HY0.out.turn ht)
  have HB1 := Lib.hid (HB0.out.trans (ht.2.1.mono (by omega)))
  have HDD := Lib.hid (And.intro hd1 (And.intro hd2 hdw))
  clear hd1 hd2 hdw ht HC0 HX0 HY0 HB0 HD0
  refine hKK.out _ _ (⟨HX1.out.range, HC1.out.range, HY1.out.range⟩) (fun hHeld => ?_)
  clear hKK KK
  (try simp only [List.getElem_toArray, List.getElem_cons_succ, List.getElem_cons_zero, Act.put, List.setIfInBounds_toArray, List.set_cons_zero, List.set_cons_succ])
  refine wpAnyH_ready (rs := [5]) (by kernel_rfl) (by simp) ?_
  refine AllReadyH.cons rfl (fun KK hKK => ?_) AllReadyH.nil
  (try simp only [List.getElem_toArray, List.getElem_cons_succ, List.getElem_cons_zero])
  go_simp
  obtain ⟨V2, hV2⟩ : ∃ q, q = V1.alloc (.cells #[.bool xc.third, .int .i64 xc.first.kind, .int .u64 (xc.first.mask : Int), .int .i64 xc.first.lo, .int .i64 xc.first.hi, .string (sof xc.first.name), .int .i64 xc.first.num, .int .i64 xc.party, .slice X1 xc.ticket.length x1, .slice X2 xc.box.length x2, .bool c.third, .int .i64 c.first.kind, .int .u64 (c.first.mask : Int), .int .i64 c.first.lo, .int .i64 c.first.hi, .string (sof c.first.name), .int .i64 c.first.num, .int .i64 c.party, .slice A1 c.ticket.length c1, .slice A2 c.box.length c2, .bool dc.third, .int .i64 dc.first.kind, .int .u64 (dc.first.mask : Int), .int .i64 dc.first.lo, .int .i64 dc.first.hi, .string (sof dc.first.name), .int .i64 dc.first.num, .int .i64 dc.party, .slice D1 dc.ticket.length d1, .slice D2 dc.box.length d2, .bool yc.third, .int .i64 yc.first.kind, .int .u64 (yc.first.mask : Int), .int .i64 yc.first.lo, .int .i64 yc.first.hi, .string (sof yc.first.name), .int .i64 yc.first.num, .int .i64 yc.party, .slice Y1 yc.ticket.length y1, .slice Y2 yc.box.length y2] 27) := ⟨_, rfl⟩
  have hb2 : Below V1.heap.size V1 V2 := by rw [hV2]; exact (Below.refl _ _).alloc (Nat.le_refl _) _
  have hl2 : Whole V2 V1.heap.size 27 #[.bool xc.third, .int .i64 xc.first.kind, .int .u64 (xc.first.mask : Int), .int .i64 xc.first.lo, .int .i64 xc.first.hi, .string (sof xc.first.name), .int .i64 xc.first.num, .int .i64 xc.party, .slice X1 xc.ticket.length x1, .slice X2 xc.box.length x2, .bool c.third, .int .i64 c.first.kind, .int .u64 (c.first.mask : Int), .int .i64 c.first.lo, .int .i64 c.first.hi, .string (sof c.first.name), .int .i64 c.first.num, .int .i64 c.party, .slice A1 c.ticket.length c1, .slice A2 c.box.length c2, .bool dc.third, .int .i64 dc.first.kind, .int .u64 (dc.first.mask : Int), .int .i64 dc.first.lo, .int .i64 dc.first.hi, .string (sof dc.first.name), .int .i64 dc.first.num, .int .i64 dc.party, .slice D1 dc.ticket.length d1, .slice D2 dc.box.length d2, .bool yc.third, .int .i64 yc.first.kind, .int .u64 (yc.first.mask : Int), .int .i64 yc.first.lo, .int .i64 yc.first.hi, .string (sof yc.first.name), .int .i64 yc.first.num, .int .i64 yc.party, .slice Y1 yc.ticket.length y1, .slice Y2 yc.box.length y2] := by rw [hV2]; exact Whole.here _ _ _
  have HC2 := Lib.hid (HC1.out.below hb2)
  have HX2 := Lib.hid (HX1.out.below hb2)
  have HY2 := Lib.hid (HY1.out.below hb2)
  have HB2 := Lib.hid (HB1.out.trans (hb2.mono (by omega)))
  have HL2 : Hid (Cvs V2 (some ⟨V1.heap.size, 0, none⟩) [xc, c, dc, yc]) := Lib.hid (cvs4 hl2 (HX2.out.2.2.1.mono fun _ _ _ => trivial) (HX2.out.2.2.2.1.mono fun _ _ _ => trivial) HX2.out.2.2.2.2 (HC2.out.2.2.1.mono fun _ _ _ => trivial) (HC2.out.2.2.2.1.mono fun _ _ _ => trivial) HC2.out.2.2.2.2 ((HDD.out.1.below hb2 (Nat.le_refl _)).mono fun _ _ _ => trivial) ((HDD.out.2.1.below hb2 (Nat.le_refl _)).mono fun _ _ _ => trivial) HDD.out.2.2 (HY2.out.2.2.1.mono fun _ _ _ => trivial) (HY2.out.2.2.2.1.mono fun _ _ _ => trivial) HY2.out.2.2.2.2)
  have hs9 : V1.heap.size < V2.heap.size := hl2.lt
  rw [← hV2]
  clear hV2 hb2 hl2 HC1 HX1 HY1 HB1 HDD
  refine hKK.out _ _ (⟨HX2.out.range, HC2.out.range, HY2.out.range⟩) (fun hHeld => ?_)
  clear hKK KK
  (try simp only [List.getElem_toArray, List.getElem_cons_succ, List.getElem_cons_zero, Act.put, List.setIfInBounds_toArray, List.set_cons_zero, List.set_cons_succ])
  apply wpAnyH_take (i := 6) rfl (by kernel_rfl) (by kernel_rfl) (by kernel_rfl)
  case hQ => exact fun _ _ _ h => h
  case hS => exact hHeld
  case hy => (refine Or.inl ⟨by rfl, ?_⟩; intro w hSw; (try go_split_ands); go_simp; (try with_reducible rfl))
  (try simp only [List.getElem_toArray, List.getElem_cons_succ, List.getElem_cons_zero, Act.put, List.setIfInBounds_toArray, List.set_cons_zero, List.set_cons_succ])
  refine wpAnyH_done (by kernel_rfl) ?_ _
  clear hHeld
  obtain ⟨gl, hgl⟩ : ∃ g, g = V1.heap.size := ⟨_, rfl⟩
  rw [← hgl] at HL2 ⊢
  clear hgl
  go_upto_region 6 with fail
  have hb0 : Below V2.heap.size V2 V2.drew := (Below.refl _ _).drew
  have HC0 := Lib.hid (HC2.out.below hb0)
  have HX0 := Lib.hid (HX2.out.below hb0)
  have HY0 := Lib.hid (HY2.out.below hb0)
  have HL0 := Lib.hid (HL2.out.below hb0)
  have HB0 := Lib.hid (HB2.out.drew)
  have hsu0 : V2.heap.size ≤ V2.drew.heap.size := hb0.size
  clear HC2 HX2 HY2 HL2 HB2 hb0
  refine wp_region_held_drew (S := fun W : World => W.rangeAt gx 0 [.bool xc.third, .int .i64 xc.first.kind, .int .u64 (xc.first.mask : Int), .int .i64 xc.first.lo, .int .i64 xc.first.hi, .string (sof xc.first.name), .int .i64 xc.first.num, .int .i64 xc.party, .slice X1 xc.ticket.length x1, .slice X2 xc.box.length x2] ∧ W.rangeAt w.heap.size 0 [.bool c.third, .int .i64 c.first.kind, .int .u64 (c.first.mask : Int), .int .i64 c.first.lo, .int .i64 c.first.hi, .string (sof c.first.name), .int .i64 c.first.num, .int .i64 c.party, .slice A1 c.ticket.length c1, .slice A2 c.box.length c2] ∧ W.rangeAt gy 0 [.bool yc.third, .int .i64 yc.first.kind, .int .u64 (yc.first.mask : Int), .int .i64 yc.first.lo, .int .i64 yc.first.hi, .string (sof yc.first.name), .int .i64 yc.first.num, .int .i64 yc.party, .slice Y1 yc.ticket.length y1, .slice Y2 yc.box.length y2]) (by kernel_rfl) (⟨HX0.out.range, HC0.out.range, HY0.out.range⟩) (fun hHeld => ?_)
  generalize V2.drew = U0 at HC0 HX0 HY0 HL0 HB0 hsu0 hHeld ⊢
  apply wpAnyH_take (i := 0) rfl (by kernel_rfl) (by kernel_rfl) (by kernel_rfl)
  case hQ => exact fun _ _ _ h => h
  case hS => exact hHeld
  case hy => exact yieldsIf_load_mid (by rfl) 27 _ rfl gx (0) rfl ([.bool xc.third, .int .i64 xc.first.kind, .int .u64 (xc.first.mask : Int), .int .i64 xc.first.lo, .int .i64 xc.first.hi, .string (sof xc.first.name), .int .i64 xc.first.num, .int .i64 xc.party, .slice X1 xc.ticket.length x1, .slice X2 xc.box.length x2]) _ (fun w hS => hS.1) Try.underlying27 rfl (by rw [cavSize]; rfl)
  (try simp only [List.getElem_toArray, List.getElem_cons_zero, Act.put, List.setIfInBounds_toArray, List.set_cons_zero, List.set_cons_succ])
  apply wpAnyH_take (i := 1) rfl (by kernel_rfl) (by kernel_rfl) (by kernel_rfl)
  case hQ => exact fun _ _ _ h => h
  case hS => exact hHeld
  case hy => exact yieldsIf_load_mid (by rfl) 27 _ rfl w.heap.size (0) rfl ([.bool c.third, .int .i64 c.first.kind, .int .u64 (c.first.mask : Int), .int .i64 c.first.lo, .int .i64 c.first.hi, .string (sof c.first.name), .int .i64 c.first.num, .int .i64 c.party, .slice A1 c.ticket.length c1, .slice A2 c.box.length c2]) _ (fun w hS => hS.2.1) Try.underlying27 rfl (by rw [cavSize]; rfl)
  (try simp only [List.getElem_toArray, List.getElem_cons_succ, List.getElem_cons_zero, Act.put, List.setIfInBounds_toArray, List.set_cons_zero, List.set_cons_succ])
  apply wpAnyH_take (i := 2) rfl (by kernel_rfl) (by kernel_rfl) (by kernel_rfl)
  case hQ => exact fun _ _ _ h => h
  case hS => exact hHeld
  case hy => (refine Or.inl ⟨by rfl, ?_⟩; intro w hSw; (try go_split_ands); go_simp; (try with_reducible rfl))
  (try simp only [List.getElem_toArray, List.getElem_cons_succ, List.getElem_cons_zero, Act.put, List.setIfInBounds_toArray, List.set_cons_zero, List.set_cons_succ])
  apply wpAnyH_take (i := 5) rfl (by kernel_rfl) (by kernel_rfl) (by kernel_rfl)
  case hQ => exact fun _ _ _ h => h
  case hS => exact hHeld
  case hy => exact yieldsIf_load_mid (by rfl) 27 _ rfl gy (0) rfl ([.bool yc.third, .int .i64 yc.first.kind, .int .u64 (yc.first.mask : Int), .int .i64 yc.first.lo, .int .i64 yc.first.hi, .string (sof yc.first.name), .int .i64 yc.first.num, .int .i64 yc.party, .slice Y1 yc.ticket.length y1, .slice Y2 yc.box.length y2]) _ (fun w hS => hS.2.2) Try.underlying27 rfl (by rw [cavSize]; rfl)
  (try simp only [List.getElem_toArray, List.getElem_cons_succ, List.getElem_cons_zero, Act.put, List.setIfInBounds_toArray, List.set_cons_zero, List.set_cons_succ])
  refine wpAnyH_ready (rs := [3]) (by kernel_rfl) (by simp) ?_
  refine AllReadyH.cons rfl (fun KK hKK => ?_) AllReadyH.nil
  (try simp only [List.getElem_toArray, List.getElem_cons_succ, List.getElem_cons_zero])
  go_simp
  go_at_call 5
  refine (dnew A4 n4 c4 l4 U0 HN4.out ((HJ.out.below HB0.out).mono HB0.out.size)).mono ?_
  rintro e U1 ⟨rfl, hdk, hbu⟩
  have hsu1 : U0.heap.size < U1.heap.size := hdk.lt
  have HX1 := Lib.hid (HX0.out.below hbu)
  have HC1 := Lib.hid (HC0.out.below hbu)
  have HY1 := Lib.hid (HY0.out.below hbu)
  have HDK := Lib.hid hdk
  have HBU := Lib.hid hbu
  clear hdk hbu
  refine hKK.out _ _ (⟨HX1.out.range, HC1.out.range, HY1.out.range⟩) (fun hHeld => ?_)
  clear hKK KK
  (try simp only [List.getElem_toArray, List.getElem_cons_succ, List.getElem_cons_zero, Act.put, List.setIfInBounds_toArray, List.set_cons_zero, List.set_cons_succ])
  refine wpAnyH_ready (rs := [4]) (by kernel_rfl) (by simp) ?_
  refine AllReadyH.cons rfl (fun KK hKK => ?_) AllReadyH.nil
  (try simp only [List.getElem_toArray, List.getElem_cons_succ, List.getElem_cons_zero])
  go_simp
  go_at_call 6
  refine (dcav U0.heap.size U1 HDK.out).mono ?_
  rintro e U2 ⟨⟨v, ec, rfl, -, hV⟩, ht⟩
  obtain ⟨E1, e1, E2, e2, rfl, hd1, hd2, hdw⟩ := hV
  have hsu2 : U1.heap.size ≤ U2.heap.size := ht.2.1.size
  have hb2 := HBU.out.trans ht.2.1
  have HC2 := Lib.hid (HC0.out.below hb2)
  have HX2 := Lib.hid (HX0.out.below hb2)
  have HY2 := Lib.hid (HY0.out.below hb2)
  have HL2 := Lib.hid (HL0.out.below hb2)
  have HB2 := Lib.hid (HB0.out.trans (hb2.mono (by omega)))
  have HDD := Lib.hid (And.intro hd1 (And.intro hd2 hdw))
  clear hd1 hd2 hdw ht hb2 HC0 HX0 HY0 HB0 HL0 HDK HBU HC1 HX1 HY1 HJ HN4
  refine hKK.out _ _ (⟨HX2.out.range, HC2.out.range, HY2.out.range⟩) (fun hHeld => ?_)
  clear hKK KK
  (try simp only [List.getElem_toArray, List.getElem_cons_succ, List.getElem_cons_zero, Act.put, List.setIfInBounds_toArray, List.set_cons_zero, List.set_cons_succ])
  refine wpAnyH_ready (rs := [6]) (by kernel_rfl) (by simp) ?_
  refine AllReadyH.cons rfl (fun KK hKK => ?_) AllReadyH.nil
  (try simp only [List.getElem_toArray, List.getElem_cons_succ, List.getElem_cons_zero])
  go_simp
  obtain ⟨P, hP⟩ : ∃ q, q = U2.alloc (.cells #[.bool xc.third, .int .i64 xc.first.kind, .int .u64 (xc.first.mask : Int), .int .i64 xc.first.lo, .int .i64 xc.first.hi, .string (sof xc.first.name), .int .i64 xc.first.num, .int .i64 xc.party, .slice X1 xc.ticket.length x1, .slice X2 xc.box.length x2, .bool c.third, .int .i64 c.first.kind, .int .u64 (c.first.mask : Int), .int .i64 c.first.lo, .int .i64 c.first.hi, .string (sof c.first.name), .int .i64 c.first.num, .int .i64 c.party, .slice A1 c.ticket.length c1, .slice A2 c.box.length c2, .bool ec.third, .int .i64 ec.first.kind, .int .u64 (ec.first.mask : Int), .int .i64 ec.first.lo, .int .i64 ec.first.hi, .string (sof ec.first.name), .int .i64 ec.first.num, .int .i64 ec.party, .slice E1 ec.ticket.length e1, .slice E2 ec.box.length e2, .bool yc.third, .int .i64 yc.first.kind, .int .u64 (yc.first.mask : Int), .int .i64 yc.first.lo, .int .i64 yc.first.hi, .string (sof yc.first.name), .int .i64 yc.first.num, .int .i64 yc.party, .slice Y1 yc.ticket.length y1, .slice Y2 yc.box.length y2] 27) := ⟨_, rfl⟩
  have hb3 : Below U2.heap.size U2 P := by rw [hP]; exact (Below.refl _ _).alloc (Nat.le_refl _) _
  have hl3 : Whole P U2.heap.size 27 #[.bool xc.third, .int .i64 xc.first.kind, .int .u64 (xc.first.mask : Int), .int .i64 xc.first.lo, .int .i64 xc.first.hi, .string (sof xc.first.name), .int .i64 xc.first.num, .int .i64 xc.party, .slice X1 xc.ticket.length x1, .slice X2 xc.box.length x2, .bool c.third, .int .i64 c.first.kind, .int .u64 (c.first.mask : Int), .int .i64 c.first.lo, .int .i64 c.first.hi, .string (sof c.first.name), .int .i64 c.first.num, .int .i64 c.party, .slice A1 c.ticket.length c1, .slice A2 c.box.length c2, .bool ec.third, .int .i64 ec.first.kind, .int .u64 (ec.first.mask : Int), .int .i64 ec.first.lo, .int .i64 ec.first.hi, .string (sof ec.first.name), .int .i64 ec.first.num, .int .i64 ec.party, .slice E1 ec.ticket.length e1, .slice E2 ec.box.length e2, .bool yc.third, .int .i64 yc.first.kind, .int .u64 (yc.first.mask : Int), .int .i64 yc.first.lo, .int .i64 yc.first.hi, .string (sof yc.first.name), .int .i64 yc.first.num, .int .i64 yc.party, .slice Y1 yc.ticket.length y1, .slice Y2 yc.box.length y2] := by rw [hP]; exact Whole.here _ _ _
  have HC3 := Lib.hid (HC2.out.below hb3)
  have HX3 := Lib.hid (HX2.out.below hb3)
  have HY3 := Lib.hid (HY2.out.below hb3)
  have HL3 := Lib.hid (HL2.out.below hb3)
  have HB3 := Lib.hid (HB2.out.trans (hb3.mono (by omega)))
  have HM3 : Hid (Cvs P (some ⟨U2.heap.size, 0, none⟩) [xc, c, ec, yc]) := Lib.hid (cvs4 hl3 (HX3.out.2.2.1.mono fun _ _ _ => trivial) (HX3.out.2.2.2.1.mono fun _ _ _ => trivial) HX3.out.2.2.2.2 (HC3.out.2.2.1.mono fun _ _ _ => trivial) (HC3.out.2.2.2.1.mono fun _ _ _ => trivial) HC3.out.2.2.2.2 ((HDD.out.1.below hb3 (Nat.le_refl _)).mono fun _ _ _ => trivial) ((HDD.out.2.1.below hb3 (Nat.le_refl _)).mono fun _ _ _ => trivial) HDD.out.2.2 (HY3.out.2.2.1.mono fun _ _ _ => trivial) (HY3.out.2.2.2.1.mono fun _ _ _ => trivial) HY3.out.2.2.2.2)
  have hsu3 : U2.heap.size < P.heap.size := hl3.lt
  rw [← hP]
  clear hP hb3 hl3 HC2 HX2 HY2 HB2 HL2 HDD
  refine hKK.out _ _ (⟨HX3.out.range, HC3.out.range, HY3.out.range⟩) (fun hHeld => ?_)
  clear hKK KK
  (try simp only [List.getElem_toArray, List.getElem_cons_succ, List.getElem_cons_zero, Act.put, List.setIfInBounds_toArray, List.set_cons_zero, List.set_cons_succ])
  apply wpAnyH_take (i := 7) rfl (by kernel_rfl) (by kernel_rfl) (by kernel_rfl)
  case hQ => exact fun _ _ _ h => h
  case hS => exact hHeld
  case hy => (refine Or.inl ⟨by rfl, ?_⟩; intro w hSw; (try go_split_ands); go_simp; (try with_reducible rfl))
  (try simp only [List.getElem_toArray, List.getElem_cons_succ, List.getElem_cons_zero, Act.put, List.setIfInBounds_toArray, List.set_cons_zero, List.set_cons_succ])
  refine wpAnyH_done (by kernel_rfl) ?_ _
  clear hHeld
  obtain ⟨gm, hgm⟩ : ∃ g, g = U2.heap.size := ⟨_, rfl⟩
  rw [← hgm] at HM3 ⊢
  clear hgm
  go_upto_region 7 with fail
  obtain ⟨DC, hDC⟩ : ∃ D, D = decide (cvok c) := ⟨_, rfl⟩
  obtain ⟨DY, hDY⟩ : ∃ D, D = decide (cvok yc) := ⟨_, rfl⟩
  obtain ⟨DS, hDS⟩ : ∃ D, D = decide ([xc, c, dc, yc] = [xc, c, ec, yc]) := ⟨_, rfl⟩
  obtain ⟨FL, hFL⟩ : ∃ l, l = fsts [xc, c, dc, yc] := ⟨_, rfl⟩
  have HQ1 : Hid (∀ W, Below P.heap.size P W → Calls Try.prog 8 #[.agg (cvrow xc.third xc.first xc.party (.slice X1 xc.ticket.length x1) (.slice X2 xc.box.length x2))] W fun e w' => e = .returned (.bool true) ∧ Below W.heap.size W w') := Lib.hid fun W hW => by have h := cvalid (HX3.out.val.below hW (Nat.le_refl _)); rw [decide_eq_true HXOK.out] at h; exact h
  have HQ4 : Hid (∀ W, Below P.heap.size P W → Calls Try.prog 8 #[.agg (cvrow c.third c.first c.party (.slice A1 c.ticket.length c1) (.slice A2 c.box.length c2))] W fun e w' => e = .returned (.bool DC) ∧ Below W.heap.size W w') := Lib.hid fun W hW => by have h := cvalid (HC3.out.val.below hW (Nat.le_refl _)); rw [← hDC] at h; exact h
  have HQ6 : Hid (∀ W, Below P.heap.size P W → Calls Try.prog 9 #[.agg (cvrow c.third c.first c.party (.slice A1 c.ticket.length c1) (.slice A2 c.box.length c2))] W fun e w' => e = .returned (.bool DC) ∧ Below W.heap.size W w') := Lib.hid fun W hW => by have h := rcvalid (HC3.out.val.below hW (Nat.le_refl _)); rw [← hDC] at h; exact h
  have HQ11 : Hid (∀ W, Below P.heap.size P W → Calls Try.prog 8 #[.agg (cvrow yc.third yc.first yc.party (.slice Y1 yc.ticket.length y1) (.slice Y2 yc.box.length y2))] W fun e w' => e = .returned (.bool DY) ∧ Below W.heap.size W w') := Lib.hid fun W hW => by have h := cvalid (HY3.out.val.below hW (Nat.le_refl _)); rw [← hDY] at h; exact h
  have HQ13 : Hid (∀ W, Below P.heap.size P W → Calls Try.prog 9 #[.agg (cvrow yc.third yc.first yc.party (.slice Y1 yc.ticket.length y1) (.slice Y2 yc.box.length y2))] W fun e w' => e = .returned (.bool DY) ∧ Below W.heap.size W w') := Lib.hid fun W hW => by have h := rcvalid (HY3.out.val.below hW (Nat.le_refl _)); rw [← hDY] at h; exact h
  have HQ18 : Hid (∀ W, Below P.heap.size P W → Calls Try.prog 11 #[.slice (some ⟨gl, 0, none⟩) 4 4] W fun e w' => (∃ F f, e = .returned (.slice F FL.length f) ∧ Prds w' (fun _ => True) F f FL) ∧ Below W.heap.size W w') := Lib.hid fun W hW => (cfirsts (ca := 4) (HL3.out.below hW) (by simp)).mono fun e w' h => by
    obtain ⟨⟨v, rfl, ho⟩, hb⟩ := h
    obtain ⟨F, f, rfl, hp⟩ := ho.prds (cvs_bd HL3.out)
    rw [← hFL] at hp ⊢
    exact ⟨⟨F, f, rfl, hp.mono fun _ _ _ => trivial⟩, hb⟩
  have HQ20 : Hid (∀ W, Below P.heap.size P W → Calls Try.prog 12 #[.slice (some ⟨gl, 0, none⟩) 4 4] W fun e w' => (∃ F f, e = .returned (.slice F FL.length f) ∧ Prds w' (fun _ => True) F f FL) ∧ Below W.heap.size W w') := Lib.hid fun W hW => (rcfirsts (ca := 4) (HL3.out.below hW) (by simp)).mono fun e w' h => by
    obtain ⟨⟨v, rfl, ho⟩, hb⟩ := h
    obtain ⟨F, f, rfl, hp⟩ := ho.prds (cvs_bd HL3.out)
    rw [← hFL] at hp ⊢
    exact ⟨⟨F, f, rfl, hp.mono fun _ _ _ => trivial⟩, hb⟩
  have HFL : Hid (FL.length ≤ 100000) := Lib.hid (by have := fsts_len [xc, c, dc, yc]; rw [← hFL] at this; simp at this; omega)
  have HQ26 : Hid (∀ W, Below P.heap.size P W → Calls Try.prog 13 #[.slice (some ⟨gl, 0, none⟩) 4 4, .slice (some ⟨gm, 0, none⟩) 4 4] W fun e w' => e = .returned (.bool DS) ∧ Below W.heap.size W w') := Lib.hid fun W hW => by have h := csamel (ca := 4) (cb := 4) (HL3.out.below hW) (HM3.out.below hW) (by simp) (by simp); rw [← hDS] at h; exact h
  have HQ29 : Hid (∀ W, Below P.heap.size P W → Calls Try.prog 14 #[.slice (some ⟨gl, 0, none⟩) 4 4, .slice (some ⟨gm, 0, none⟩) 4 4] W fun e w' => e = .returned (.bool DS) ∧ Below W.heap.size W w') := Lib.hid fun W hW => by have h := rcsame (ca := 4) (cb := 4) (HL3.out.below hW) (HM3.out.below hW) (by simp) (by simp); rw [← hDS] at h; exact h
  have HQ35 : Hid (∀ W, Below P.heap.size P W → Calls Try.prog 13 #[.slice (some ⟨gl, 0, none⟩) 4 4, .slice (some ⟨gl, 0, none⟩) 4 4] W fun e w' => e = .returned (.bool true) ∧ Below W.heap.size W w') := Lib.hid fun W hW => by have h := csamel (ca := 4) (cb := 4) (HL3.out.below hW) (HL3.out.below hW) (by simp) (by simp); rw [decide_eq_true rfl] at h; exact h
  have HQ41 : Hid (∀ W, Below P.heap.size P W → Calls Try.prog 13 #[.slice (some ⟨gl, 0, none⟩) 4 4, .slice (some ⟨gl, 0, none⟩) 3 4] W fun e w' => e = .returned (.bool false) ∧ Below W.heap.size W w') := Lib.hid fun W hW => by have h := csamel (ca := 4) (cb := 4) (HL3.out.below hW) (lb := [xc, c, dc]) (fun i e he => HL3.out.below hW i e (by match i, he with | 0, he => exact he | 1, he => exact he | 2, he => exact he | n + 3, he => simp at he)) (by simp) (by simp); rw [decide_eq_false (by simp)] at h; exact h
  have HQ45 : Hid (∀ W, Below P.heap.size P W → Calls Try.prog 15 #[] W fun e w' => e = .returned (.bool true) ∧ Below W.heap.size W w') := Lib.hid fun W hW => cawake W
  have HS7 : Hid (∀ W, Below P.heap.size P W → (fun W : World => W.rangeAt gx 0 [.bool xc.third, .int .i64 xc.first.kind, .int .u64 (xc.first.mask : Int), .int .i64 xc.first.lo, .int .i64 xc.first.hi, .string (sof xc.first.name), .int .i64 xc.first.num, .int .i64 xc.party, .slice X1 xc.ticket.length x1, .slice X2 xc.box.length x2] ∧ W.rangeAt w.heap.size 0 [.bool c.third, .int .i64 c.first.kind, .int .u64 (c.first.mask : Int), .int .i64 c.first.lo, .int .i64 c.first.hi, .string (sof c.first.name), .int .i64 c.first.num, .int .i64 c.party, .slice A1 c.ticket.length c1, .slice A2 c.box.length c2] ∧ W.rangeAt gy 0 [.bool yc.third, .int .i64 yc.first.kind, .int .u64 (yc.first.mask : Int), .int .i64 yc.first.lo, .int .i64 yc.first.hi, .string (sof yc.first.name), .int .i64 yc.first.num, .int .i64 yc.party, .slice Y1 yc.ticket.length y1, .slice Y2 yc.box.length y2]) W) := Lib.hid fun W hW => ⟨(HX3.out.below hW).range, (HC3.out.below hW).range, (HY3.out.below hW).range⟩
  have hbK0 : Below P.heap.size P P.drew := (Below.refl _ _).drew
  have HBP := Lib.hid HB3.out
  clear HX3 HC3 HY3 HL3 HM3 HB3 hDC hDY hDS hFL HXOK
  refine wp_region_held_drew (S := fun W : World => W.rangeAt gx 0 [.bool xc.third, .int .i64 xc.first.kind, .int .u64 (xc.first.mask : Int), .int .i64 xc.first.lo, .int .i64 xc.first.hi, .string (sof xc.first.name), .int .i64 xc.first.num, .int .i64 xc.party, .slice X1 xc.ticket.length x1, .slice X2 xc.box.length x2] ∧ W.rangeAt w.heap.size 0 [.bool c.third, .int .i64 c.first.kind, .int .u64 (c.first.mask : Int), .int .i64 c.first.lo, .int .i64 c.first.hi, .string (sof c.first.name), .int .i64 c.first.num, .int .i64 c.party, .slice A1 c.ticket.length c1, .slice A2 c.box.length c2] ∧ W.rangeAt gy 0 [.bool yc.third, .int .i64 yc.first.kind, .int .u64 (yc.first.mask : Int), .int .i64 yc.first.lo, .int .i64 yc.first.hi, .string (sof yc.first.name), .int .i64 yc.first.num, .int .i64 yc.party, .slice Y1 yc.ticket.length y1, .slice Y2 yc.box.length y2]) (by kernel_rfl) (HS7.out _ hbK0) (fun hHeld => ?_)
  generalize P.drew = P0 at hbK0 hHeld ⊢
  apply wpAnyH_take (i := 0) rfl (by kernel_rfl) (by kernel_rfl) (by kernel_rfl)
  case hQ => exact fun _ _ _ h => h
  case hS => exact hHeld
  case hy => exact yieldsIf_load_mid (by rfl) 27 _ rfl gx (0) rfl ([.bool xc.third, .int .i64 xc.first.kind, .int .u64 (xc.first.mask : Int), .int .i64 xc.first.lo, .int .i64 xc.first.hi, .string (sof xc.first.name), .int .i64 xc.first.num, .int .i64 xc.party, .slice X1 xc.ticket.length x1, .slice X2 xc.box.length x2]) _ (fun w hS => hS.1) Try.underlying27 rfl (by rw [cavSize]; rfl)
  (try simp only [List.getElem_toArray, List.getElem_cons_zero, Act.put, List.setIfInBounds_toArray, List.set_cons_zero, List.set_cons_succ])
  refine wpAnyH_ready (rs := [1]) (by kernel_rfl) (by simp) ?_
  refine AllReadyH.cons rfl (fun KK hKK => ?_) AllReadyH.nil
  (try simp only [List.getElem_toArray, List.getElem_cons_succ, List.getElem_cons_zero])
  go_simp
  go_at_call 8
  refine (HQ1.out _ hbK0).mono ?_
  rintro e Z1 ⟨rfl, hb9⟩
  have hbK1 := hbK0.trans (hb9.mono hbK0.size)
  clear hb9 hbK0
  refine hKK.out _ _ (HS7.out _ hbK1) (fun hHeld => ?_)
  clear hKK KK
  (try simp only [List.getElem_toArray, List.getElem_cons_succ, List.getElem_cons_zero, Act.put, List.setIfInBounds_toArray, List.set_cons_zero, List.set_cons_succ])
  apply wpAnyH_take (i := 2) rfl (by kernel_rfl) (by kernel_rfl) (by kernel_rfl)
  case hQ => exact fun _ _ _ h => h
  case hS => exact hHeld
  case hy => (refine Or.inl ⟨by rfl, ?_⟩; intro w hSw; (try go_split_ands); go_simp; (try with_reducible rfl))
  (try simp only [List.getElem_toArray, List.getElem_cons_succ, List.getElem_cons_zero, Act.put, List.setIfInBounds_toArray, List.set_cons_zero, List.set_cons_succ])
  apply wpAnyH_take (i := 3) rfl (by kernel_rfl) (by kernel_rfl) (by kernel_rfl)
  case hQ => exact fun _ _ _ h => h
  case hS => exact hHeld
  case hy => exact yieldsIf_load_mid (by rfl) 27 _ rfl w.heap.size (0) rfl ([.bool c.third, .int .i64 c.first.kind, .int .u64 (c.first.mask : Int), .int .i64 c.first.lo, .int .i64 c.first.hi, .string (sof c.first.name), .int .i64 c.first.num, .int .i64 c.party, .slice A1 c.ticket.length c1, .slice A2 c.box.length c2]) _ (fun w hS => hS.2.1) Try.underlying27 rfl (by rw [cavSize]; rfl)
  (try simp only [List.getElem_toArray, List.getElem_cons_succ, List.getElem_cons_zero, Act.put, List.setIfInBounds_toArray, List.set_cons_zero, List.set_cons_succ])
  apply wpAnyH_take (i := 5) rfl (by kernel_rfl) (by kernel_rfl) (by kernel_rfl)
  case hQ => exact fun _ _ _ h => h
  case hS => exact hHeld
  case hy => exact yieldsIf_load_mid (by rfl) 27 _ rfl w.heap.size (0) rfl ([.bool c.third, .int .i64 c.first.kind, .int .u64 (c.first.mask : Int), .int .i64 c.first.lo, .int .i64 c.first.hi, .string (sof c.first.name), .int .i64 c.first.num, .int .i64 c.party, .slice A1 c.ticket.length c1, .slice A2 c.box.length c2]) _ (fun w hS => hS.2.1) Try.underlying27 rfl (by rw [cavSize]; rfl)
  (try simp only [List.getElem_toArray, List.getElem_cons_succ, List.getElem_cons_zero, Act.put, List.setIfInBounds_toArray, List.set_cons_zero, List.set_cons_succ])
  refine wpAnyH_ready (rs := [4]) (by kernel_rfl) (by simp) ?_
  refine AllReadyH.cons rfl (fun KK hKK => ?_) AllReadyH.nil
  (try simp only [List.getElem_toArray, List.getElem_cons_succ, List.getElem_cons_zero])
  go_simp
  go_at_call 8
  refine (HQ4.out _ hbK1).mono ?_
  rintro e Z4 ⟨rfl, hb9⟩
  have hbK4 := hbK1.trans (hb9.mono hbK1.size)
  clear hb9 hbK1
  refine hKK.out _ _ (HS7.out _ hbK4) (fun hHeld => ?_)
  clear hKK KK
  (try simp only [List.getElem_toArray, List.getElem_cons_succ, List.getElem_cons_zero, Act.put, List.setIfInBounds_toArray, List.set_cons_zero, List.set_cons_succ])
  refine wpAnyH_ready (rs := [6]) (by kernel_rfl) (by simp) ?_
  refine AllReadyH.cons rfl (fun KK hKK => ?_) AllReadyH.nil
  (try simp only [List.getElem_toArray, List.getElem_cons_succ, List.getElem_cons_zero])
  go_simp
  go_at_call 9
  refine (HQ6.out _ hbK4).mono ?_
  rintro e Z6 ⟨rfl, hb9⟩
  have hbK6 := hbK4.trans (hb9.mono hbK4.size)
  clear hb9 hbK4
  refine hKK.out _ _ (HS7.out _ hbK6) (fun hHeld => ?_)
  clear hKK KK
  (try simp only [List.getElem_toArray, List.getElem_cons_succ, List.getElem_cons_zero, Act.put, List.setIfInBounds_toArray, List.set_cons_zero, List.set_cons_succ])
  apply wpAnyH_take (i := 7) rfl (by kernel_rfl) (by kernel_rfl) (by kernel_rfl)
  case hQ => exact fun _ _ _ h => h
  case hS => exact hHeld
  case hy => (refine Or.inl ⟨by rfl, ?_⟩; intro w hSw; (try go_split_ands); go_simp; (try with_reducible rfl))
  (try simp only [List.getElem_toArray, List.getElem_cons_succ, List.getElem_cons_zero, Act.put, List.setIfInBounds_toArray, List.set_cons_zero, List.set_cons_succ])
  apply wpAnyH_take (i := 8) rfl (by kernel_rfl) (by kernel_rfl) (by kernel_rfl)
  case hQ => exact fun _ _ _ h => h
  case hS => exact hHeld
  case hy => (refine Or.inl ⟨by rfl, ?_⟩; intro w hSw; (try go_split_ands); go_simp; (try with_reducible rfl))
  (try simp only [List.getElem_toArray, List.getElem_cons_succ, List.getElem_cons_zero, Act.put, List.setIfInBounds_toArray, List.set_cons_zero, List.set_cons_succ])
  apply wpAnyH_take (i := 9) rfl (by kernel_rfl) (by kernel_rfl) (by kernel_rfl)
  case hQ => exact fun _ _ _ h => h
  case hS => exact hHeld
  case hy => (refine Or.inl ⟨by rfl, ?_⟩; intro w hSw; (try go_split_ands); go_simp; (try with_reducible rfl))
  (try simp only [List.getElem_toArray, List.getElem_cons_succ, List.getElem_cons_zero, Act.put, List.setIfInBounds_toArray, List.set_cons_zero, List.set_cons_succ])
  apply wpAnyH_take (i := 10) rfl (by kernel_rfl) (by kernel_rfl) (by kernel_rfl)
  case hQ => exact fun _ _ _ h => h
  case hS => exact hHeld
  case hy => exact yieldsIf_load_mid (by rfl) 27 _ rfl gy (0) rfl ([.bool yc.third, .int .i64 yc.first.kind, .int .u64 (yc.first.mask : Int), .int .i64 yc.first.lo, .int .i64 yc.first.hi, .string (sof yc.first.name), .int .i64 yc.first.num, .int .i64 yc.party, .slice Y1 yc.ticket.length y1, .slice Y2 yc.box.length y2]) _ (fun w hS => hS.2.2) Try.underlying27 rfl (by rw [cavSize]; rfl)
  (try simp only [List.getElem_toArray, List.getElem_cons_succ, List.getElem_cons_zero, Act.put, List.setIfInBounds_toArray, List.set_cons_zero, List.set_cons_succ])
  apply wpAnyH_take (i := 12) rfl (by kernel_rfl) (by kernel_rfl) (by kernel_rfl)
  case hQ => exact fun _ _ _ h => h
  case hS => exact hHeld
  case hy => exact yieldsIf_load_mid (by rfl) 27 _ rfl gy (0) rfl ([.bool yc.third, .int .i64 yc.first.kind, .int .u64 (yc.first.mask : Int), .int .i64 yc.first.lo, .int .i64 yc.first.hi, .string (sof yc.first.name), .int .i64 yc.first.num, .int .i64 yc.party, .slice Y1 yc.ticket.length y1, .slice Y2 yc.box.length y2]) _ (fun w hS => hS.2.2) Try.underlying27 rfl (by rw [cavSize]; rfl)
  (try simp only [List.getElem_toArray, List.getElem_cons_succ, List.getElem_cons_zero, Act.put, List.setIfInBounds_toArray, List.set_cons_zero, List.set_cons_succ])
  refine wpAnyH_ready (rs := [11]) (by kernel_rfl) (by simp) ?_
  refine AllReadyH.cons rfl (fun KK hKK => ?_) AllReadyH.nil
  (try simp only [List.getElem_toArray, List.getElem_cons_succ, List.getElem_cons_zero])
  go_simp
  go_at_call 8
  refine (HQ11.out _ hbK6).mono ?_
  rintro e Z11 ⟨rfl, hb9⟩
  have hbK11 := hbK6.trans (hb9.mono hbK6.size)
  clear hb9 hbK6
  refine hKK.out _ _ (HS7.out _ hbK11) (fun hHeld => ?_)
  clear hKK KK
  (try simp only [List.getElem_toArray, List.getElem_cons_succ, List.getElem_cons_zero, Act.put, List.setIfInBounds_toArray, List.set_cons_zero, List.set_cons_succ])
  refine wpAnyH_ready (rs := [13]) (by kernel_rfl) (by simp) ?_
  refine AllReadyH.cons rfl (fun KK hKK => ?_) AllReadyH.nil
  (try simp only [List.getElem_toArray, List.getElem_cons_succ, List.getElem_cons_zero])
  go_simp
  go_at_call 9
  refine (HQ13.out _ hbK11).mono ?_
  rintro e Z13 ⟨rfl, hb9⟩
  have hbK13 := hbK11.trans (hb9.mono hbK11.size)
  clear hb9 hbK11
  refine hKK.out _ _ (HS7.out _ hbK13) (fun hHeld => ?_)
  clear hKK KK
  (try simp only [List.getElem_toArray, List.getElem_cons_succ, List.getElem_cons_zero, Act.put, List.setIfInBounds_toArray, List.set_cons_zero, List.set_cons_succ])
  apply wpAnyH_take (i := 14) rfl (by kernel_rfl) (by kernel_rfl) (by kernel_rfl)
  case hQ => exact fun _ _ _ h => h
  case hS => exact hHeld
  case hy => (refine Or.inl ⟨by rfl, ?_⟩; intro w hSw; (try go_split_ands); go_simp; (try with_reducible rfl))
  (try simp only [List.getElem_toArray, List.getElem_cons_succ, List.getElem_cons_zero, Act.put, List.setIfInBounds_toArray, List.set_cons_zero, List.set_cons_succ])
  apply wpAnyH_take (i := 15) rfl (by kernel_rfl) (by kernel_rfl) (by kernel_rfl)
  case hQ => exact fun _ _ _ h => h
  case hS => exact hHeld
  case hy => (refine Or.inl ⟨by rfl, ?_⟩; intro w hSw; (try go_split_ands); go_simp; (try with_reducible rfl))
  (try simp only [List.getElem_toArray, List.getElem_cons_succ, List.getElem_cons_zero, Act.put, List.setIfInBounds_toArray, List.set_cons_zero, List.set_cons_succ])
  apply wpAnyH_take (i := 16) rfl (by kernel_rfl) (by kernel_rfl) (by kernel_rfl)
  case hQ => exact fun _ _ _ h => h
  case hS => exact hHeld
  case hy => (refine Or.inl ⟨by rfl, ?_⟩; intro w hSw; (try go_split_ands); go_simp; (try with_reducible rfl))
  (try simp only [List.getElem_toArray, List.getElem_cons_succ, List.getElem_cons_zero, Act.put, List.setIfInBounds_toArray, List.set_cons_zero, List.set_cons_succ])
  apply wpAnyH_take (i := 17) rfl (by kernel_rfl) (by kernel_rfl) (by kernel_rfl)
  case hQ => exact fun _ _ _ h => h
  case hS => exact hHeld
  case hy => (refine Or.inl ⟨by rfl, ?_⟩; intro w hSw; (try go_split_ands); go_simp; (try with_reducible rfl))
  (try simp only [List.getElem_toArray, List.getElem_cons_succ, List.getElem_cons_zero, Act.put, List.setIfInBounds_toArray, List.set_cons_zero, List.set_cons_succ])
  apply wpAnyH_take (i := 19) rfl (by kernel_rfl) (by kernel_rfl) (by kernel_rfl)
  case hQ => exact fun _ _ _ h => h
  case hS => exact hHeld
  case hy => (refine Or.inl ⟨by rfl, ?_⟩; intro w hSw; (try go_split_ands); go_simp; (try with_reducible rfl))
  (try simp only [List.getElem_toArray, List.getElem_cons_succ, List.getElem_cons_zero, Act.put, List.setIfInBounds_toArray, List.set_cons_zero, List.set_cons_succ])
  refine wpAnyH_ready (rs := [18]) (by kernel_rfl) (by simp) ?_
  refine AllReadyH.cons rfl (fun KK hKK => ?_) AllReadyH.nil
  (try simp only [List.getElem_toArray, List.getElem_cons_succ, List.getElem_cons_zero])
  go_simp
  go_at_call 11
  refine (HQ18.out _ hbK13).mono ?_
  rintro e Z18 ⟨⟨F18, f18, rfl, hp⟩, hb9⟩
  have HP18 := Lib.hid hp
  clear hp
  have hbK18 := hbK13.trans (hb9.mono hbK13.size)
  clear hb9 hbK13
  refine hKK.out _ _ (HS7.out _ hbK18) (fun hHeld => ?_)
  clear hKK KK
  (try simp only [List.getElem_toArray, List.getElem_cons_succ, List.getElem_cons_zero, Act.put, List.setIfInBounds_toArray, List.set_cons_zero, List.set_cons_succ])
  refine wpAnyH_ready (rs := [20]) (by kernel_rfl) (by simp) ?_
  refine AllReadyH.cons rfl (fun KK hKK => ?_) AllReadyH.nil
  (try simp only [List.getElem_toArray, List.getElem_cons_succ, List.getElem_cons_zero])
  go_simp
  go_at_call 12
  refine (HQ20.out _ hbK18).mono ?_
  rintro e Z20 ⟨⟨F20, f20, rfl, hp⟩, hb9⟩
  have HP20 := Lib.hid hp
  clear hp
  have HP18b := Lib.hid (HP18.out.below hb9 (Nat.le_refl _))
  clear HP18
  have hbK20 := hbK18.trans (hb9.mono hbK18.size)
  clear hb9 hbK18
  refine hKK.out _ _ (HS7.out _ hbK20) (fun hHeld => ?_)
  clear hKK KK
  (try simp only [List.getElem_toArray, List.getElem_cons_succ, List.getElem_cons_zero, Act.put, List.setIfInBounds_toArray, List.set_cons_zero, List.set_cons_succ])
  refine wpAnyH_ready (rs := [21]) (by kernel_rfl) (by simp) ?_
  refine AllReadyH.cons rfl (fun KK hKK => ?_) AllReadyH.nil
  (try simp only [List.getElem_toArray, List.getElem_cons_succ, List.getElem_cons_zero])
  go_simp
  go_at_call 10
  refine (rsamep HP18b.out HP20.out HFL.out HFL.out).mono ?_
  rintro e Z21 ⟨rfl, hb9⟩
  rw [decide_eq_true rfl]
  have hbK21 := hbK20.trans (hb9.mono hbK20.size)
  clear hb9 hbK20
  refine hKK.out _ _ (HS7.out _ hbK21) (fun hHeld => ?_)
  clear hKK KK
  (try simp only [List.getElem_toArray, List.getElem_cons_succ, List.getElem_cons_zero, Act.put, List.setIfInBounds_toArray, List.set_cons_zero, List.set_cons_succ])
  apply wpAnyH_take (i := 22) rfl (by kernel_rfl) (by kernel_rfl) (by kernel_rfl)
  case hQ => exact fun _ _ _ h => h
  case hS => exact hHeld
  case hy => (refine Or.inl ⟨by rfl, ?_⟩; intro w hSw; (try go_split_ands); go_simp; (try with_reducible rfl))
  (try simp only [List.getElem_toArray, List.getElem_cons_succ, List.getElem_cons_zero, Act.put, List.setIfInBounds_toArray, List.set_cons_zero, List.set_cons_succ])
  apply wpAnyH_take (i := 23) rfl (by kernel_rfl) (by kernel_rfl) (by kernel_rfl)
  case hQ => exact fun _ _ _ h => h
  case hS => exact hHeld
  case hy => (refine Or.inl ⟨by rfl, ?_⟩; intro w hSw; (try go_split_ands); go_simp; (try with_reducible rfl))
  (try simp only [List.getElem_toArray, List.getElem_cons_succ, List.getElem_cons_zero, Act.put, List.setIfInBounds_toArray, List.set_cons_zero, List.set_cons_succ])
  apply wpAnyH_take (i := 24) rfl (by kernel_rfl) (by kernel_rfl) (by kernel_rfl)
  case hQ => exact fun _ _ _ h => h
  case hS => exact hHeld
  case hy => (refine Or.inl ⟨by rfl, ?_⟩; intro w hSw; (try go_split_ands); go_simp; (try with_reducible rfl))
  (try simp only [List.getElem_toArray, List.getElem_cons_succ, List.getElem_cons_zero, Act.put, List.setIfInBounds_toArray, List.set_cons_zero, List.set_cons_succ])
  apply wpAnyH_take (i := 25) rfl (by kernel_rfl) (by kernel_rfl) (by kernel_rfl)
  case hQ => exact fun _ _ _ h => h
  case hS => exact hHeld
  case hy => (refine Or.inl ⟨by rfl, ?_⟩; intro w hSw; (try go_split_ands); go_simp; (try with_reducible rfl))
  (try simp only [List.getElem_toArray, List.getElem_cons_succ, List.getElem_cons_zero, Act.put, List.setIfInBounds_toArray, List.set_cons_zero, List.set_cons_succ])
  apply wpAnyH_take (i := 27) rfl (by kernel_rfl) (by kernel_rfl) (by kernel_rfl)
  case hQ => exact fun _ _ _ h => h
  case hS => exact hHeld
  case hy => (refine Or.inl ⟨by rfl, ?_⟩; intro w hSw; (try go_split_ands); go_simp; (try with_reducible rfl))
  (try simp only [List.getElem_toArray, List.getElem_cons_succ, List.getElem_cons_zero, Act.put, List.setIfInBounds_toArray, List.set_cons_zero, List.set_cons_succ])
  apply wpAnyH_take (i := 28) rfl (by kernel_rfl) (by kernel_rfl) (by kernel_rfl)
  case hQ => exact fun _ _ _ h => h
  case hS => exact hHeld
  case hy => (refine Or.inl ⟨by rfl, ?_⟩; intro w hSw; (try go_split_ands); go_simp; (try with_reducible rfl))
  (try simp only [List.getElem_toArray, List.getElem_cons_succ, List.getElem_cons_zero, Act.put, List.setIfInBounds_toArray, List.set_cons_zero, List.set_cons_succ])
  refine wpAnyH_ready (rs := [26]) (by kernel_rfl) (by simp) ?_
  refine AllReadyH.cons rfl (fun KK hKK => ?_) AllReadyH.nil
  (try simp only [List.getElem_toArray, List.getElem_cons_succ, List.getElem_cons_zero])
  go_simp
  go_at_call 13
  refine (HQ26.out _ hbK21).mono ?_
  rintro e Z26 ⟨rfl, hb9⟩
  have hbK26 := hbK21.trans (hb9.mono hbK21.size)
  clear hb9 hbK21
  refine hKK.out _ _ (HS7.out _ hbK26) (fun hHeld => ?_)
  clear hKK KK
  (try simp only [List.getElem_toArray, List.getElem_cons_succ, List.getElem_cons_zero, Act.put, List.setIfInBounds_toArray, List.set_cons_zero, List.set_cons_succ])
  refine wpAnyH_ready (rs := [29]) (by kernel_rfl) (by simp) ?_
  refine AllReadyH.cons rfl (fun KK hKK => ?_) AllReadyH.nil
  (try simp only [List.getElem_toArray, List.getElem_cons_succ, List.getElem_cons_zero])
  go_simp
  go_at_call 14
  refine (HQ29.out _ hbK26).mono ?_
  rintro e Z29 ⟨rfl, hb9⟩
  have hbK29 := hbK26.trans (hb9.mono hbK26.size)
  clear hb9 hbK26
  refine hKK.out _ _ (HS7.out _ hbK29) (fun hHeld => ?_)
  clear hKK KK
  (try simp only [List.getElem_toArray, List.getElem_cons_succ, List.getElem_cons_zero, Act.put, List.setIfInBounds_toArray, List.set_cons_zero, List.set_cons_succ])
  apply wpAnyH_take (i := 30) rfl (by kernel_rfl) (by kernel_rfl) (by kernel_rfl)
  case hQ => exact fun _ _ _ h => h
  case hS => exact hHeld
  case hy => (refine Or.inl ⟨by rfl, ?_⟩; intro w hSw; (try go_split_ands); go_simp; (try with_reducible rfl))
  (try simp only [List.getElem_toArray, List.getElem_cons_succ, List.getElem_cons_zero, Act.put, List.setIfInBounds_toArray, List.set_cons_zero, List.set_cons_succ])
  apply wpAnyH_take (i := 31) rfl (by kernel_rfl) (by kernel_rfl) (by kernel_rfl)
  case hQ => exact fun _ _ _ h => h
  case hS => exact hHeld
  case hy => (refine Or.inl ⟨by rfl, ?_⟩; intro w hSw; (try go_split_ands); go_simp; (try with_reducible rfl))
  (try simp only [List.getElem_toArray, List.getElem_cons_succ, List.getElem_cons_zero, Act.put, List.setIfInBounds_toArray, List.set_cons_zero, List.set_cons_succ])
  apply wpAnyH_take (i := 32) rfl (by kernel_rfl) (by kernel_rfl) (by kernel_rfl)
  case hQ => exact fun _ _ _ h => h
  case hS => exact hHeld
  case hy => (refine Or.inl ⟨by rfl, ?_⟩; intro w hSw; (try go_split_ands); go_simp; (try with_reducible rfl))
  (try simp only [List.getElem_toArray, List.getElem_cons_succ, List.getElem_cons_zero, Act.put, List.setIfInBounds_toArray, List.set_cons_zero, List.set_cons_succ])
  apply wpAnyH_take (i := 33) rfl (by kernel_rfl) (by kernel_rfl) (by kernel_rfl)
  case hQ => exact fun _ _ _ h => h
  case hS => exact hHeld
  case hy => (refine Or.inl ⟨by rfl, ?_⟩; intro w hSw; (try go_split_ands); go_simp; (try with_reducible rfl))
  (try simp only [List.getElem_toArray, List.getElem_cons_succ, List.getElem_cons_zero, Act.put, List.setIfInBounds_toArray, List.set_cons_zero, List.set_cons_succ])
  apply wpAnyH_take (i := 34) rfl (by kernel_rfl) (by kernel_rfl) (by kernel_rfl)
  case hQ => exact fun _ _ _ h => h
  case hS => exact hHeld
  case hy => (refine Or.inl ⟨by rfl, ?_⟩; intro w hSw; (try go_split_ands); go_simp; (try with_reducible rfl))
  (try simp only [List.getElem_toArray, List.getElem_cons_succ, List.getElem_cons_zero, Act.put, List.setIfInBounds_toArray, List.set_cons_zero, List.set_cons_succ])
  refine wpAnyH_ready (rs := [35]) (by kernel_rfl) (by simp) ?_
  refine AllReadyH.cons rfl (fun KK hKK => ?_) AllReadyH.nil
  (try simp only [List.getElem_toArray, List.getElem_cons_succ, List.getElem_cons_zero])
  go_simp
  go_at_call 13
  refine (HQ35.out _ hbK29).mono ?_
  rintro e Z35 ⟨rfl, hb9⟩
  have hbK35 := hbK29.trans (hb9.mono hbK29.size)
  clear hb9 hbK29
  refine hKK.out _ _ (HS7.out _ hbK35) (fun hHeld => ?_)
  clear hKK KK
  (try simp only [List.getElem_toArray, List.getElem_cons_succ, List.getElem_cons_zero, Act.put, List.setIfInBounds_toArray, List.set_cons_zero, List.set_cons_succ])
  apply wpAnyH_take (i := 36) rfl (by kernel_rfl) (by kernel_rfl) (by kernel_rfl)
  case hQ => exact fun _ _ _ h => h
  case hS => exact hHeld
  case hy => (refine Or.inl ⟨by rfl, ?_⟩; intro w hSw; (try go_split_ands); go_simp; (try with_reducible rfl))
  (try simp only [List.getElem_toArray, List.getElem_cons_succ, List.getElem_cons_zero, Act.put, List.setIfInBounds_toArray, List.set_cons_zero, List.set_cons_succ])
  apply wpAnyH_take (i := 37) rfl (by kernel_rfl) (by kernel_rfl) (by kernel_rfl)
  case hQ => exact fun _ _ _ h => h
  case hS => exact hHeld
  case hy => (refine Or.inl ⟨by rfl, ?_⟩; intro w hSw; (try go_split_ands); go_simp; (try with_reducible rfl))
  (try simp only [List.getElem_toArray, List.getElem_cons_succ, List.getElem_cons_zero, Act.put, List.setIfInBounds_toArray, List.set_cons_zero, List.set_cons_succ])
  apply wpAnyH_take (i := 38) rfl (by kernel_rfl) (by kernel_rfl) (by kernel_rfl)
  case hQ => exact fun _ _ _ h => h
  case hS => exact hHeld
  case hy => (refine Or.inl ⟨by rfl, ?_⟩; intro w hSw; (try go_split_ands); go_simp; (try with_reducible rfl))
  (try simp only [List.getElem_toArray, List.getElem_cons_succ, List.getElem_cons_zero, Act.put, List.setIfInBounds_toArray, List.set_cons_zero, List.set_cons_succ])
  apply wpAnyH_take (i := 39) rfl (by kernel_rfl) (by kernel_rfl) (by kernel_rfl)
  case hQ => exact fun _ _ _ h => h
  case hS => exact hHeld
  case hy => (refine Or.inl ⟨by rfl, ?_⟩; intro w hSw; (try go_split_ands); go_simp; (try with_reducible rfl))
  (try simp only [List.getElem_toArray, List.getElem_cons_succ, List.getElem_cons_zero, Act.put, List.setIfInBounds_toArray, List.set_cons_zero, List.set_cons_succ])
  apply wpAnyH_take (i := 40) rfl (by kernel_rfl) (by kernel_rfl) (by kernel_rfl)
  case hQ => exact fun _ _ _ h => h
  case hS => exact hHeld
  case hy => (refine Or.inl ⟨by rfl, ?_⟩; intro w hSw; (try go_split_ands); go_simp; (try with_reducible rfl))
  (try simp only [List.getElem_toArray, List.getElem_cons_succ, List.getElem_cons_zero, Act.put, List.setIfInBounds_toArray, List.set_cons_zero, List.set_cons_succ])
  refine wpAnyH_ready (rs := [41]) (by kernel_rfl) (by simp) ?_
  refine AllReadyH.cons rfl (fun KK hKK => ?_) AllReadyH.nil
  (try simp only [List.getElem_toArray, List.getElem_cons_succ, List.getElem_cons_zero])
  go_simp
  go_at_call 13
  refine (HQ41.out _ hbK35).mono ?_
  rintro e Z41 ⟨rfl, hb9⟩
  have hbK41 := hbK35.trans (hb9.mono hbK35.size)
  clear hb9 hbK35
  refine hKK.out _ _ (HS7.out _ hbK41) (fun hHeld => ?_)
  clear hKK KK
  (try simp only [List.getElem_toArray, List.getElem_cons_succ, List.getElem_cons_zero, Act.put, List.setIfInBounds_toArray, List.set_cons_zero, List.set_cons_succ])
  apply wpAnyH_take (i := 42) rfl (by kernel_rfl) (by kernel_rfl) (by kernel_rfl)
  case hQ => exact fun _ _ _ h => h
  case hS => exact hHeld
  case hy => (refine Or.inl ⟨by rfl, ?_⟩; intro w hSw; (try go_split_ands); go_simp; (try with_reducible rfl))
  (try simp only [List.getElem_toArray, List.getElem_cons_succ, List.getElem_cons_zero, Act.put, List.setIfInBounds_toArray, List.set_cons_zero, List.set_cons_succ])
  apply wpAnyH_take (i := 43) rfl (by kernel_rfl) (by kernel_rfl) (by kernel_rfl)
  case hQ => exact fun _ _ _ h => h
  case hS => exact hHeld
  case hy => (refine Or.inl ⟨by rfl, ?_⟩; intro w hSw; (try go_split_ands); go_simp; (try with_reducible rfl))
  (try simp only [List.getElem_toArray, List.getElem_cons_succ, List.getElem_cons_zero, Act.put, List.setIfInBounds_toArray, List.set_cons_zero, List.set_cons_succ])
  apply wpAnyH_take (i := 44) rfl (by kernel_rfl) (by kernel_rfl) (by kernel_rfl)
  case hQ => exact fun _ _ _ h => h
  case hS => exact hHeld
  case hy => (refine Or.inl ⟨by rfl, ?_⟩; intro w hSw; (try go_split_ands); go_simp; (try with_reducible rfl))
  (try simp only [List.getElem_toArray, List.getElem_cons_succ, List.getElem_cons_zero, Act.put, List.setIfInBounds_toArray, List.set_cons_zero, List.set_cons_succ])
  refine wpAnyH_ready (rs := [45]) (by kernel_rfl) (by simp) ?_
  refine AllReadyH.cons rfl (fun KK hKK => ?_) AllReadyH.nil
  (try simp only [List.getElem_toArray, List.getElem_cons_succ, List.getElem_cons_zero])
  go_simp
  go_at_call 15
  refine (HQ45.out _ hbK41).mono ?_
  rintro e Z45 ⟨rfl, hb9⟩
  have hbK45 := hbK41.trans (hb9.mono hbK41.size)
  clear hb9 hbK41
  refine hKK.out _ _ (HS7.out _ hbK45) (fun hHeld => ?_)
  clear hKK KK
  (try simp only [List.getElem_toArray, List.getElem_cons_succ, List.getElem_cons_zero, Act.put, List.setIfInBounds_toArray, List.set_cons_zero, List.set_cons_succ])
  apply wpAnyH_take (i := 46) rfl (by kernel_rfl) (by kernel_rfl) (by kernel_rfl)
  case hQ => exact fun _ _ _ h => h
  case hS => exact hHeld
  case hy => (refine Or.inl ⟨by rfl, ?_⟩; intro w hSw; (try go_split_ands); go_simp; (try with_reducible rfl))
  (try simp only [List.getElem_toArray, List.getElem_cons_succ, List.getElem_cons_zero, Act.put, List.setIfInBounds_toArray, List.set_cons_zero, List.set_cons_succ])
  apply wpAnyH_take (i := 47) rfl (by kernel_rfl) (by kernel_rfl) (by kernel_rfl)
  case hQ => exact fun _ _ _ h => h
  case hS => exact hHeld
  case hy => (refine Or.inl ⟨by rfl, ?_⟩; intro w hSw; (try go_split_ands); go_simp; (try with_reducible rfl))
  (try simp only [List.getElem_toArray, List.getElem_cons_succ, List.getElem_cons_zero, Act.put, List.setIfInBounds_toArray, List.set_cons_zero, List.set_cons_succ])
  refine wpAnyH_done (by kernel_rfl) ?_ _
  clear hHeld HS7 HQ1 HQ4 HQ6 HQ11 HQ13 HQ18 HQ20 HQ26 HQ29 HQ35 HQ41 HQ45 HP18b HP20 HFL
  have HFIN := Lib.hid (HBP.out.trans (hbK45.mono (by have := HBP.out.size; omega)))
  clear hbK45
  go_wp2_with fail
  go_ret
  exact ⟨rfl, HFIN.out⟩
end Go.Proofs.Ytodmfippjcfbbaa
