/-
  Rows of boxes in blocks of their own; what an opened box is, in plain words.
  recorded of the program.
  newBox in a free algebra.
  Seal (the program); newBox is what its contract (NewB) says.
  openRecorded of the program.
  Open (the program); openComputed is what its contract (OpenC) says.
  For the laws over boxes: an algebra that is built free, plain words of the awake check.
  The law s' awake of stage 11.
  The law BoxFree.
-/
import Derived.Test.YteglmfimgdgchaaDoorPk15
import Derived.Test.YteglmfimgdgchaaDoorPk25
import Derived.Deep.CutBlock
import Derived.Deep.DeepCutAuto
import Derived.Test.YteglmfimgdgchaaDoorPk3
import Derived.Deep.RegionHeld3
import Derived.Test.YteglmfimgdgchaaDoorPk4
import Derived.Test.YteglmfimgdgchaaDoorPk18
import Derived.Test.YteglmfimgdgchaaDoorPk42
import Derived.Test.YteglmfimgdgchaaDoorPk17
import Derived.Test.YteglmfimgdgchaaDoorKAnyG
import Derived.Test.YteglmfimgdgchaaDoorPk24
import Derived.Test.YteglmfimgdgchaaDoorPk8
import Derived.Test.YteglmfimgdgchaaDoorPk20
import Derived.Test.YteglmfimgdgchaaDoorPk11
namespace Go.Proofs.YteglmfimgdgchaaDoor
open Go Go.RowKit Sh Leaf

theorem bcl_size (X : BxM) : (bcl X).toArray.size = 35 := by rw [List.size_toArray, bcl_len]
theorem bcl_one1 (X : BxM) : (bcl X).toArray.all (·.oneCell') = true := all_oneCell_toArray (bcl_one X)
theorem bcl_sz (X : BxM) : (Tryd.prog.info? 56).map (·.size) = some (bcl X).length := by rw [boxSize, bcl_len]
theorem wpList_store_box {w : World} {g : Nat} {ops : Array Oper} {rest : List Oper} {o : Oper} {a : Act} {Q : Exit → Act → World → Prop} (hgd : o.guard = none) (x y : Operand) (ho : o.op = .store 56 x y)
    (hx : a.eval x = .pointer (some ⟨g, 0, none⟩)) {cs cs' : Array Value} (hy : a.eval y = .agg cs') (hg : Whole w g 56 cs) (h8 : cs.size = 35) (h8' : cs'.size = 35) (hone : cs'.all (·.oneCell') = true)
    (h : wpList Tryd.prog ops Q rest (a.put o.dst undef) (w.setRow g cs')) : wpList Tryd.prog ops Q (o :: rest) a w :=
  wpList_store_row hgd 56 x y ho g _ hx hy 56 _ hg (by rw [boxSize, h8']) (by rw [h8, h8']) hone h
namespace Sh
/-- Opening in a free algebra: the first entry with this key and this box. -/
def fndo (l : List Bx) (k b : List B8) : Option (List B8) := (l.find? fun e => decide (e.key = k ∧ e.box = b)).map (·.plain)
theorem fndo_drop {l : List Bx} {j : Nat} {e : Bx} (h : l[j]? = some e) (k b : List B8) : fndo (l.drop j) k b = if e.key = k ∧ e.box = b then some e.plain else fndo (l.drop (j + 1)) k b := by
  have hj := (List.getElem?_eq_some_iff.1 h).1
  have he := (List.getElem?_eq_some_iff.1 h).2
  rw [List.drop_eq_getElem_cons hj, he]
  unfold fndo
  rw [List.find?_cons]
  by_cases h : e.key = k ∧ e.box = b
  · rw [if_pos h, decide_eq_true h]; rfl
  · rw [if_neg h, decide_eq_false h]
theorem fndo_end (l : List Bx) (k b : List B8) : fndo (l.drop l.length) k b = none := by rw [List.drop_length]; rfl
/-- Open. -/
def aOpen (a : Alg) (k b : List B8) : List B8 × Int :=
  if a.free = true then (match fndo a.boxes k b with | some p => (p, 0) | none => ([], 14))
  else if b.length < 40 ∨ 296 < b.length then ([], 14)
  else if hmac k (boxw ++ b.take (b.length - 32)) = b.drop (b.length - 32) then (strm k (beval (b.take 8)) ((b.take (b.length - 32)).drop 8), 0) else ([], 14)
end Sh
end Go.Proofs.YteglmfimgdgchaaDoor
namespace Go.Proofs.YteglmfimgdgchaaDoor
open Go Go.RowKit Sh Leaf

set_option linter.unusedSimpArgs false in
set_option linter.unusedVariables false in
set_option maxRecDepth 100000 in
set_option maxHeartbeats 4000000 in
theorem prec {w : World} {Q Q2 : Nat → Prop} {A B : Option Addr} {c d : Nat} {bs : List Bx} {K m : List B8} {z : Int} (hx : Bxs w Q A c bs) (hn : bs.length ≤ 1000) (hK : K.length = 32) (hm : Bytes w Q2 (.slice B m.length d) m) :
    Calls Tryd.prog 49 #[.slice A bs.length c, .agg (K.map byt).toArray, .int .i64 z, .slice B m.length d] w fun e w' => (∃ v, e = .returned (.tuple #[v, .bool (fndb bs K z m).isSome]) ∧ Bytes w' (fun g => w.heap.size ≤ g) v ((fndb bs K z m).getD [])) ∧ Below w.heap.size w w' := by
  obtain ⟨R, hR⟩ : ∃ R, R = fndb bs K z m := ⟨_, rfl⟩
  obtain ⟨p, hp⟩ : ∃ p, p = w.alloc (.cells (K.map byt).toArray 23) := ⟨_, rfl⟩
  have hb : Below w.heap.size w p := by rw [hp]; exact (Below.refl _ _).alloc (Nat.le_refl _) _
  have hsp : w.heap.size + 1 ≤ p.heap.size := by rw [hp]; simp
  have hk : TGRow p w.heap.size K := by rw [hp]; exact Whole.here _ _ _
  have hx0 := (hx.mono (Q' := fun b => b < w.heap.size) fun b hb _ => hb).below hb (Nat.le_refl _)
  have hm0 := (hm.mono (Q' := fun b => b < w.heap.size) fun b hb _ => hb).below hb (Nat.le_refl _)
  rw [← hR]
  have H1 : Hid (Below w.heap.size w p) := Lib.hid (hb)
  have H2 : Hid (TGRow p w.heap.size K) := Lib.hid (hk)
  have H3 : Hid (Bxs p (fun b => b < w.heap.size) A c bs) := Lib.hid (hx0)
  have H4 : Hid (Bytes p (fun b => b < w.heap.size) (.slice B m.length d) m) := Lib.hid (hm0)
  have HR := Lib.hid hR
  clear hR hb hk hx0 hm0 hx hm
  go_enter Tryd.func49, Tryd.ntmps49
  go_upto_region 1 with fail
  rw [← hp]
  clear hp
  go_wp2_with fail
  go_loopw [14] (fun v wr => ∃ j : Nat, v = .int .i64 j ∧ j ≤ bs.length ∧ fndb (bs.drop j) K z m = R ∧ Below p.heap.size p wr) (fun v _ => bs.length - (intOf v).toNat)
  case atStart => exact ⟨0, rfl, by omega, by rw [List.drop_zero]; exact HR.out.symm, Below.refl _ _⟩
  case round =>
    obtain ⟨j, rfl, hj, hf, hbw⟩ := hrel
    have hswr : p.heap.size ≤ wr.heap.size := hbw.size
    have HF := Lib.hid hf
    clear hf
    have H5 : Hid (Below p.heap.size p p) := Lib.hid (Below.refl _ _)
    have H6 : Hid (Below w.heap.size w wr) := Lib.hid ((Below.trans H1.out (Below.mono hbw (Below.size H1.out))))
    have H7 : Hid (TGRow wr w.heap.size K) := Lib.hid ((Whole.below H2.out hbw (Whole.lt H2.out)))
    have H8 : Hid (Bxs wr (fun b => b < w.heap.size) A c bs) := Lib.hid ((Bxs.below H3.out hbw (Nat.le_refl _)))
    have H9 : Hid (Bytes wr (fun b => b < w.heap.size) (.slice B m.length d) m) := Lib.hid ((Bytes.below H4.out hbw (Nat.le_refl _)))
    have H10 : Hid (Below p.heap.size p wr) := Lib.hid ((Below.trans H5.out (Below.mono hbw (Below.size H5.out))))
    clear H1 H2 H3 H4 H5
    clear hbw
    by_cases hlt : j < bs.length
    case neg =>
      obtain rfl : j = bs.length := by omega
      have hRn : R = none := by have := HF.out; rw [fndb_end] at this; exact this.symm
      subst hRn
      have HG := Lib.hid H6.out
      go_wp2_with fail
      go_ret2
      exact ⟨⟨_, rfl, bytes_nil _ _⟩, HG.out⟩
    case pos =>
      obtain ⟨e, he⟩ : ∃ e, bs[j]? = some e := ⟨_, List.getElem?_eq_getElem hlt⟩
      obtain ⟨g0, o, D, dc, D2, dc2, hA, hq, hg, hrow, -, hby, hbx, hk32, hnc, hp5, hb5⟩ := Bxs.get H8.out j e he
      obtain ⟨E, hE⟩ : ∃ E : BxM, E = ⟨e, D, dc, D2, dc2⟩ := ⟨_, rfl⟩
      rw [← hE] at hrow
      have hEe : E.e = e := by rw [hE]
      have HX := Lib.hid (And.intro hEe (And.intro (show E.A = D by rw [hE]) (And.intro (show E.c = dc by rw [hE]) (And.intro (show E.A2 = D2 by rw [hE]) (show E.c2 = dc2 by rw [hE])))))
      have HD := Lib.hid (fndb_drop he K z m)
      have j0 : (0 : Int) ≤ (j : Int) := by omega
      have jn : (j : Int) < (bs.length : Int) := by omega
      have HA := Lib.hid hA
      subst hA
      have H11 : Hid (Bytes wr (fun b => b < w.heap.size) (.slice D e.plain.length dc) e.plain) := Lib.hid (hby)
      have H12 : Hid (Bytes wr (fun b => b < w.heap.size) (.slice D2 e.box.length dc2) e.box) := Lib.hid (hbx)
      clear hE hEe he hby hbx hq
      have ks0 : ∀ z0 : Array Value, Whole (wr.alloc (.cells z0 56)) wr.heap.size 56 z0 := fun _ => (Whole.here _ _ _)
      go_upto_region 4 with (first
        | (with_reducible refine wpList_load_mid rfl 56 _ rfl g0 (o + j * 35) rfl _ _ hrow Tryd.underlying56 rfl (bcl_sz _) ?_)
        | (with_reducible refine wpList_store_box rfl _ _ rfl (g := wr.heap.size) rfl rfl (ks0 _) rfl (bcl_size _) (bcl_one1 _) ?_))
      clear ks0
      rw [zbr_lit]
      obtain ⟨q1, hq⟩ : ∃ q, q = ((wr.alloc (.cells zbr 56)).setRow wr.heap.size (bcl E).toArray) := ⟨_, rfl⟩
      rw [← hq]
      have hsq1 : wr.heap.size + 1 ≤ q1.heap.size := by rw [hq]; simp
      have H13 : Hid (Below w.heap.size w q1) := Lib.hid (by rw [hq]; exact (below_setRow (Below.trans H6.out (Below.mono (Below.alloc (Below.refl _ _) (Nat.le_refl _) _) (Below.size H6.out))) (by omega) _))
      have H14 : Hid (TGRow q1 w.heap.size K) := Lib.hid (by rw [hq]; exact (Whole.setRow_far (Whole.below H7.out (Below.alloc (Below.refl _ _) (Nat.le_refl _) _) (Whole.lt H7.out)) (by omega) _))
      have H15 : Hid (Bytes q1 (fun b => b < w.heap.size) (.slice B m.length d) m) := Lib.hid (by rw [hq]; exact (Bytes.keep (Bytes.below H9.out (Below.alloc (Below.refl _ _) (Nat.le_refl _) _) (Nat.le_refl _)) fun b _ hq => setRow_other _ _ _ _ (by omega)))
      have H16 : Hid (Below p.heap.size p q1) := Lib.hid (by rw [hq]; exact (below_setRow (Below.trans H10.out (Below.mono (Below.alloc (Below.refl _ _) (Nat.le_refl _) _) (Below.size H10.out))) (by omega) _))
      have H17 : Hid (Bytes q1 (fun b => b < w.heap.size) (.slice D e.plain.length dc) e.plain) := Lib.hid (by rw [hq]; exact (Bytes.keep (Bytes.below H11.out (Below.alloc (Below.refl _ _) (Nat.le_refl _) _) (Nat.le_refl _)) fun b _ hq => setRow_other _ _ _ _ (by omega)))
      have H18 : Hid (Bytes q1 (fun b => b < w.heap.size) (.slice D2 e.box.length dc2) e.box) := Lib.hid (by rw [hq]; exact (Bytes.keep (Bytes.below H12.out (Below.alloc (Below.refl _ _) (Nat.le_refl _) _) (Nat.le_refl _)) fun b _ hq => setRow_other _ _ _ _ (by omega)))
      clear H6 H7 H9 H10 H11 H12
      have H19 : Hid (Whole q1 wr.heap.size 56 (bcl E).toArray) := Lib.hid (by rw [hq]; exact (Whole.setRow (Whole.here _ _ _) _))
      clear hq
      have hEk : E.e.key.length = 32 := by rw [HX.out.1]; exact hk32
      have r1 : q1.rangeAt wr.heap.size 0 (e.key.map byt) := by have := BXRow.key H19.out hEk; rw [HX.out.1] at this; exact this
      have r2 := BXRow.cells H19.out
      rw [HX.out.1, HX.out.2.1, HX.out.2.2.1, HX.out.2.2.2.1, HX.out.2.2.2.2] at r2
      obtain ⟨r32, r33, r34⟩ := r2
      have kq := fun W => run_eql_tag hk32 hK W
      have hkT := H14.out
      by_cases hke : e.key = K
      case neg =>
        rw [decide_eq_false hke] at kq
        have HKE := Lib.hid hke
        clear hke
        have hnx : fndb (bs.drop (j + 1)) K z m = R := by have := HF.out; rw [HD.out, if_neg (fun h => HKE.out h.1)] at this; exact this
        have HNX := Lib.hid hnx
        clear hnx
        go_wp2_with (first
          | (with_reducible refine wpList_load_mid rfl 23 _ rfl wr.heap.size 0 rfl _ _ r1 Tryd.underlying23 rfl (by rw [tagSize, List.length_map, hk32]) ?_)
          | (with_reducible refine wpList_load_tag rfl _ rfl rfl hkT (tag_size hK) ?_))
        clear kq r1 r32 r33 r34 hkT
        go_roundw
        case rel => exact ⟨j + 1, by go_num, by omega, HNX.out, H16.out⟩
        case measure => simp [intOf]; omega
      case pos =>
        rw [decide_eq_true hke] at kq
        have HKE := Lib.hid hke
        clear hke
        by_cases hze : e.nonce = z
        case neg =>
          have hzq : (e.nonce == z) = false := by simpa using hze
          have HZE := Lib.hid hze
          clear hze
          have hnx : fndb (bs.drop (j + 1)) K z m = R := by have := HF.out; rw [HD.out, if_neg (fun h => HZE.out h.2.1)] at this; exact this
          have HNX := Lib.hid hnx
          clear hnx
          go_wp2_with (first
            | (with_reducible refine wpList_load_mid rfl 23 _ rfl wr.heap.size 0 rfl _ _ r1 Tryd.underlying23 rfl (by rw [tagSize, List.length_map, hk32]) ?_)
            | (with_reducible refine wpList_load_tag rfl _ rfl rfl hkT (tag_size hK) ?_))
          clear kq r1 r32 r33 r34 hkT
          go_roundw
          case rel => exact ⟨j + 1, by go_num, by omega, HNX.out, H16.out⟩
          case measure => simp [intOf]; omega
        case pos =>
          have hzq : (e.nonce == z) = true := by simpa using hze
          have HZE := Lib.hid hze
          clear hze
          obtain ⟨D3, hD3⟩ : ∃ D, decide (e.plain = m) = D := ⟨_, rfl⟩
          have hcl := bequal D B dc d e.plain m _ _ q1 H17.out H15.out
          rw [hD3] at hcl
          go_wp2_with (first
            | (with_reducible refine wpList_load_mid rfl 23 _ rfl wr.heap.size 0 rfl _ _ r1 Tryd.underlying23 rfl (by rw [tagSize, List.length_map, hk32]) ?_)
            | (with_reducible refine wpList_load_tag rfl _ rfl rfl hkT (tag_size hK) ?_))
          refine hcl.mono ?_
          rintro e1 w1 ⟨rfl, hww⟩
          replace hww := hww.symm
          subst hww
          clear hcl kq r1 hkT
          cases D3
          case false =>
            have hne := of_decide_eq_false hD3
            clear hD3
            have hnx : fndb (bs.drop (j + 1)) K z m = R := by have := HF.out; rw [HD.out, if_neg (fun h => hne h.2.2)] at this; exact this
            have HNX := Lib.hid hnx
            clear hnx hne
            go_wp2_with fail
            clear r32 r33 r34
            go_roundw
            case rel => exact ⟨j + 1, by go_num, by omega, HNX.out, H16.out⟩
            case measure => simp [intOf]; omega
          case true =>
            have heq := of_decide_eq_true hD3
            clear hD3
            have hRs : R = some e.box := by have := HF.out; rw [HD.out, if_pos ⟨HKE.out, HZE.out, heq⟩] at this; exact this.symm
            clear heq
            subst hRs
            have hcl := clone (.slice D2 e.box.length dc2) e.box _ q1 H18.out (by omega)
            go_wp2_with fail
            refine hcl.mono ?_
            rintro e1 w2 ⟨v2, rfl, hv2, hb2⟩
            clear hcl r32 r33 r34
            have HG := Lib.hid (Below.trans H13.out (Below.mono hb2 (Below.size H13.out)))
            have HV := Lib.hid (hv2.mono (Q' := fun g => w.heap.size ≤ g) fun b _ hq => by have := Below.size H13.out; omega)
            clear hv2 hb2
            go_wp2_with fail
            go_ret2
            exact ⟨⟨_, rfl, HV.out⟩, HG.out⟩
end Go.Proofs.YteglmfimgdgchaaDoor
namespace Go.Proofs.YteglmfimgdgchaaDoor
open Go Go.RowKit Sh Leaf

/-- What a call of newBox answers. -/
def NewB (a : Alg) (K m : List B8) (z : Int) : Prop := ∀ (W : World) (Q Q2 : Nat → Prop) (x : Value) (B : Option Addr) (d : Nat), AlV W Q x a → Bytes W Q2 (.slice B m.length d) m → Tables W →
  Calls Tryd.prog 50 #[x, .agg (K.map byt).toArray, .int .i64 z, .slice B m.length d] W fun e w' => (∃ v, e = .returned v ∧ Bytes w' (fun g => W.heap.size ≤ g) v (boxb a K z m)) ∧ Below W.heap.size W w'
set_option linter.unusedSimpArgs false in
set_option linter.unusedVariables false in
set_option maxRecDepth 100000 in
set_option maxHeartbeats 4000000 in
theorem newb_free {a : Alg} {K m : List B8} {z : Int} (hfr : a.free = true) (hK : K.length = 32) (hml : m.length ≤ 100000) : NewB a K m z := by
  intro w Q Q2 x B d hx hm hT
  obtain ⟨Am, cm, Ab, cb, rfl, -, -, hA⟩ := hx
  obtain ⟨X, hX⟩ : ∃ X, X = boxb a K z m := ⟨_, rfl⟩
  rw [← hX]
  have hXX : X = sym 98#8 ((a.boxes.length + 1 : Nat) : Int) ++ List.replicate (m.length + 8) 0 := by rw [hX]; unfold boxb; rw [if_pos hfr]
  obtain ⟨p, hp⟩ : ∃ p, p = (w.alloc (.cells (alc a.free a.seed a.fresh (.slice Am a.macs.length cm) (.slice Ab a.boxes.length cb)) 28)).alloc (.cells (K.map byt).toArray 23) := ⟨_, rfl⟩
  have hr : ALRow p w.heap.size a.free a.seed a.fresh (.slice Am a.macs.length cm) (.slice Ab a.boxes.length cb) := by rw [hp]; exact (Whole.here _ _ _).alloc _
  have hb : Below w.heap.size w p := by rw [hp]; exact ((Below.refl _ _).alloc (Nat.le_refl _) _).alloc (by simp) _
  have hsp : w.heap.size + 2 ≤ p.heap.size := by rw [hp]; simp
  obtain ⟨c0, c33, c34, c35⟩ := ALRow.cells hr
  rw [hfr] at c0
  have hn1 : a.boxes.length ≤ 1000 := hA.boxes
  have HX := Lib.hid hXX
  have HB := Lib.hid hb
  obtain ⟨Y, hY⟩ : ∃ Y, Y = sym 98#8 ((a.boxes.length + 1 : Nat) : Int) := ⟨_, rfl⟩
  have hlY : Y.length = 32 := by rw [hY]; exact sym_length _ _
  have hsy : ∀ W, Calls Tryd.prog 20 #[.int .u8 98, .int .i64 ((a.boxes.length : Int) + 1)] W fun e w' => e = .returned (tagv Y) ∧ Below W.heap.size W w' := fun W => by
    have h := symbol 98#8 ((a.boxes.length + 1 : Nat) : Int) W
    rw [show bv 98#8 = 98 from bv_lit 98 (by omega), ← hY, show ((a.boxes.length + 1 : Nat) : Int) = (a.boxes.length : Int) + 1 by omega] at h
    exact h
  have HY := Lib.hid hY
  have HSY := Lib.hid hsy
  have hnw : IntKind.i64.wrap ((a.boxes.length : Int) + 1) = (a.boxes.length : Int) + 1 := by rw [IntKind.wrap_i64]; omega
  clear hX hXX hb hr hY hsy c33 c34 hm hA hfr
  go_enter Tryd.func50, Tryd.ntmps50
  go_upto_region 1 with fail
  rw [← hp]
  clear hp
  have H1 : Hid (Below w.heap.size w p) := Lib.hid (HB.out)
  clear HB
  have hcl := HSY.out p
  go_wp2_with fail
  refine hcl.mono ?_
  rintro e u1 ⟨rfl, hbu⟩
  clear hcl c0 c35
  have hsu1 : p.heap.size ≤ u1.heap.size := hbu.size
  have H2 : Hid (Below w.heap.size w u1) := Lib.hid ((Below.trans H1.out (Below.mono hbu (Below.size H1.out))))
  clear H1
  clear hbu
  have ks0 : ∀ z0 : Array Value, Whole (u1.alloc (.cells z0 23)) u1.heap.size 23 z0 := fun _ => (Whole.here _ _ _)
  go_upto_region 3 with (with_reducible refine wpList_store_tag rfl _ _ rfl (g := u1.heap.size) rfl rfl (ks0 _) rfl (tag_size hlY) (tag_one _) ?_)
  clear ks0
  rw [ztr_lit]
  obtain ⟨q1, hq⟩ : ∃ q, q = ((u1.alloc (.cells ztr 23)).setRow u1.heap.size (Y.map byt).toArray) := ⟨_, rfl⟩
  rw [← hq]
  have hsq1 : u1.heap.size + 1 ≤ q1.heap.size := by rw [hq]; simp
  have H3 : Hid (Below w.heap.size w q1) := Lib.hid (by rw [hq]; exact (below_setRow (Below.trans H2.out (Below.mono (Below.alloc (Below.refl _ _) (Nat.le_refl _) _) (Below.size H2.out))) (by omega) _))
  clear H2
  have H4 : Hid (TGRow q1 u1.heap.size Y) := Lib.hid (by rw [hq]; exact (Whole.setRow (Whole.here _ _ _) _))
  clear hq
  have hst := fun g W => run_sliceAt_whole (P := Tryd.prog) (t := 23) (e := 5) (n := 32) Tryd.underlying23 (by kernel_rfl) g W
  have hby := Whole.bytes H4.out (by omega)
  rw [hlY] at hby
  obtain ⟨m8, hm8⟩ : ∃ k, k = m.length + 8 := ⟨_, rfl⟩
  have hmk := make_bytes (m8 : Int) m8 rfl (by omega)
  have hwm : IntKind.i64.wrap ((m.length : Int) + 8) = (m8 : Int) := by rw [IntKind.wrap_i64]; omega
  have HM8 := Lib.hid hm8
  have hm8l : m8 ≤ 200000 := by omega
  clear hm8
  (try simp only [Act.put])
  refine wp_region_held_drew (S := fun _ => True) (by kernel_rfl) (trivial) (fun hHeld => ?_)
  apply wpAnyH_take (i := 0) rfl (by kernel_rfl) (by kernel_rfl) (by kernel_rfl)
  case hQ => exact fun _ _ _ h => h
  case hS => exact hHeld
  case hy => (refine Or.inl ⟨by rfl, ?_⟩; intro w hSw; (try go_split_ands); go_simp; (try with_reducible rfl))
  (try simp only [List.getElem_toArray, List.getElem_cons_zero, Act.put, List.setIfInBounds_toArray, List.set_cons_zero, List.set_cons_succ])
  apply wpAnyH_take (i := 1) rfl (by kernel_rfl) (by kernel_rfl) (by kernel_rfl)
  case hQ => exact fun _ _ _ h => h
  case hS => exact hHeld
  case hy => (refine Or.inl ⟨by rfl, ?_⟩; intro w hSw; (try go_split_ands); go_simp; (try with_reducible rfl))
  (try simp only [List.getElem_toArray, List.getElem_cons_succ, List.getElem_cons_zero, Act.put, List.setIfInBounds_toArray, List.set_cons_zero, List.set_cons_succ])
  apply wpAnyH_take (i := 2) rfl (by kernel_rfl) (by kernel_rfl) (by kernel_rfl)
  case hQ => exact fun _ _ _ h => h
  case hS => exact hHeld
  case hy => (refine Or.inl ⟨by rfl, ?_⟩; intro w hSw; (try go_split_ands); go_simp; (try with_reducible rfl))
  (try simp only [List.getElem_toArray, List.getElem_cons_succ, List.getElem_cons_zero, Act.put, List.setIfInBounds_toArray, List.set_cons_zero, List.set_cons_succ])
  apply wpAnyH_take (i := 3) rfl (by kernel_rfl) (by kernel_rfl) (by kernel_rfl)
  case hQ => exact fun _ _ _ h => h
  case hS => exact hHeld
  case hy => (refine Or.inl ⟨by rfl, ?_⟩; intro w hSw; (try go_split_ands); go_simp; (try with_reducible rfl))
  (try simp only [List.getElem_toArray, List.getElem_cons_succ, List.getElem_cons_zero, Act.put, List.setIfInBounds_toArray, List.set_cons_zero, List.set_cons_succ])
  refine wpAnyH_ready (rs := [4]) (by kernel_rfl) (by simp) ?_
  refine AllReadyH.cons rfl (fun KK hKK => ?_) AllReadyH.nil
  (try simp only [List.getElem_toArray, List.getElem_cons_succ, List.getElem_cons_zero])
  go_simp
  obtain ⟨V1, hV1⟩ : ∃ x, x = (q1.alloc (.cells (brow m8 fun _ => 0#8) 5)).drew := ⟨_, rfl⟩
  have hz : Bytes V1 (fun b => b = q1.heap.size) (.slice (some ⟨q1.heap.size, 0, none⟩) m8 m8) (List.replicate m8 (0 : B8)) := by rw [hV1]; exact made_bytes _ m8 (by omega)
  have hb1 : Below q1.heap.size q1 V1 := by rw [hV1]; exact ((Below.refl _ _).alloc (Nat.le_refl _) _).drew
  rw [← hV1]
  clear hV1
  refine hKK.out _ _ (trivial) (fun hHeld => ?_)
  clear hKK KK
  (try simp only [List.getElem_toArray, List.getElem_cons_succ, List.getElem_cons_zero, Act.put, List.setIfInBounds_toArray, List.set_cons_zero, List.set_cons_succ])
  refine wpAnyH_ready (rs := [5]) (by kernel_rfl) (by simp) ?_
  refine AllReadyH.cons rfl (fun KK hKK => ?_) AllReadyH.nil
  (try simp only [List.getElem_toArray, List.getElem_cons_succ, List.getElem_cons_zero])
  go_simp
  obtain ⟨V2, hV2⟩ : ∃ x, x = V1.alloc (.cells #[.slice (some ⟨u1.heap.size, 0, none⟩) 32 32, .slice (some ⟨q1.heap.size, 0, none⟩) m8 m8] 40) := ⟨_, rfl⟩
  have hb2 : Below V1.heap.size V1 V2 := by rw [hV2]; exact (Below.refl _ _).alloc (Nat.le_refl _) _
  have hrow : Whole V2 V1.heap.size 40 #[.slice (some ⟨u1.heap.size, 0, none⟩) 32 32, .slice (some ⟨q1.heap.size, 0, none⟩) m8 m8] := by rw [hV2]; exact Whole.here _ _ _
  rw [← hV2]
  clear hV2
  refine hKK.out _ _ (trivial) (fun hHeld => ?_)
  clear hKK KK
  (try simp only [List.getElem_toArray, List.getElem_cons_succ, List.getElem_cons_zero, Act.put, List.setIfInBounds_toArray, List.set_cons_zero, List.set_cons_succ])
  refine wpAnyH_ready (rs := [6]) (by kernel_rfl) (by simp) ?_
  refine AllReadyH.cons rfl (fun KK hKK => ?_) AllReadyH.nil
  (try simp only [List.getElem_toArray, List.getElem_cons_succ, List.getElem_cons_zero])
  go_simp
  go_at_call 67
  refine (concat V1.heap.size _ _ Y (List.replicate m8 0) _ _ V2 (hrow.cell 0) (hrow.cell 1) ((hby.below hb1 (Nat.le_refl _)).below hb2 (Nat.le_refl _)) (hz.below hb2 (Nat.le_refl _)) (by omega) (by rw [hlY, List.length_replicate]; omega)).mono ?_
  rintro e V3 ⟨v, rfl, hv, hb3⟩
  refine hKK.out _ _ (trivial) (fun hHeld => ?_)
  clear hKK KK
  (try simp only [List.getElem_toArray, List.getElem_cons_succ, List.getElem_cons_zero, Act.put, List.setIfInBounds_toArray, List.set_cons_zero, List.set_cons_succ])
  apply wpAnyH_take (i := 7) rfl (by kernel_rfl) (by kernel_rfl) (by kernel_rfl)
  case hQ => exact fun _ _ _ h => h
  case hS => exact hHeld
  case hy => (refine Or.inl ⟨by rfl, ?_⟩; intro w hSw; (try go_split_ands); go_simp; (try with_reducible rfl))
  (try simp only [List.getElem_toArray, List.getElem_cons_succ, List.getElem_cons_zero, Act.put, List.setIfInBounds_toArray, List.set_cons_zero, List.set_cons_succ])
  refine wpAnyH_done (by kernel_rfl) ?_ _
  have hbt := Below.trans hb1 (Below.mono (Below.trans hb2 (Below.mono hb3 (Below.size hb2))) (Below.size hb1))
  have HG := Lib.hid (Below.trans H3.out (Below.mono hbt (Below.size H3.out)))
  have hsz : w.heap.size ≤ V2.heap.size := by have h1 := Below.size H3.out; have h2 := Below.size hb1; have h3 := Below.size hb2; omega
  have HV := Lib.hid (hv.mono (Q' := fun g => w.heap.size ≤ g) fun b _ hq => by omega)
  rw [HY.out, HM8.out, ← HX.out] at HV
  clear hv hb1 hb2 hb3 hbt hz hrow hby hst hmk hwm
  go_wp2_with fail
  go_ret
  exact ⟨⟨_, rfl, HV.out⟩, HG.out⟩
end Go.Proofs.YteglmfimgdgchaaDoor
namespace Go.Proofs.YteglmfimgdgchaaDoor
open Go Go.RowKit Sh Leaf

theorem wpList_buildSlice_box {w : World} {ops : Array Oper} {rest : List Oper} {o : Oper} {a : Act} {Q : Exit → Act → World → Prop} (hg : o.guard = none) (x : Operand) (ho : o.op = .buildSlice 26 1 #[(0, x)])
    (N : Nat) (hN : w.heap.size = N) (dst : Option Tmp) (hdst : o.dst = dst) {X : BxM} (hx : a.eval x = .agg (bcl X).toArray)
    (h : wpList Tryd.prog ops Q rest (a.put dst (.slice (some ⟨N, 0, none⟩) 1 1)) (w.alloc (.cells (bcl X).toArray 56))) : wpList Tryd.prog ops Q (o :: rest) a w := by
  refine Great.wpList_buildSliceTo hg 26 56 1 _ ho N hN dst hdst Tryd.underlying26 _ ?_ h
  have e1 : (#[(0, x)].map fun (i, x) => (i, a.eval x)).toList = [(0, .agg (bcl X).toArray)] := by simp [hx]
  rw [e1]
  exact bs_box X
theorem wpList_load_box {w : World} {g : Nat} {ops : Array Oper} {rest : List Oper} {o : Oper} {a : Act} {Q : Exit → Act → World → Prop} (hgd : o.guard = none) (x : Operand) (ho : o.op = .load 56 x)
    (hx : a.eval x = .pointer (some ⟨g, 0, none⟩)) {cs : Array Value} (hg : Whole w g 56 cs) (h8 : cs.size = 35) (h : wpList Tryd.prog ops Q rest (a.put o.dst (.agg cs)) w) : wpList Tryd.prog ops Q (o :: rest) a w :=
  wpList_load_row hgd 56 x ho g hx 56 _ (0, 0) _ hg Tryd.underlying56 rfl (by rw [boxSize, h8]) h
/-- The entry's row behind the region that builds it. -/
def EntP (P : World) (K m X : List B8) (z : Int) (s : Value) (wx : World) : Prop := ∃ (G : Nat) (D D2 : Option Addr) (dc dc2 : Nat), s = .pointer (some ⟨G, 0, none⟩) ∧ Whole wx G 56 (bcl ⟨⟨K, z, m, X⟩, D, dc, D2, dc2⟩).toArray ∧
  Bytes wx (fun b => P.heap.size ≤ b) (.slice D m.length dc) m ∧ Bytes wx (fun b => P.heap.size ≤ b) (.slice D2 X.length dc2) X ∧ Below P.heap.size P wx
set_option linter.unusedSimpArgs false in
set_option linter.unusedVariables false in
set_option maxRecDepth 100000 in
set_option maxHeartbeats 8000000 in
theorem pseal {w : World} {Q Q2 : Nat → Prop} {x : Value} {B : Option Addr} {d : Nat} {a : Alg} {K m : List B8} {z : Int} (hx : AlV w Q x a) (hlen : a.boxes.length < 1000) (hK : K.length = 32) (hz : i64q z) (hm : Bytes w Q2 (.slice B m.length d) m) (hml : m.length ≤ 100000) (hT : Tables w) (hN : m.length ≤ 256 → 0 ≤ z → z ≤ 281474976710656 → NewB a K m z) :
    Calls Tryd.prog 33 #[x, .agg (K.map byt).toArray, .int .i64 z, .slice B m.length d] w fun e w' => SeR w' (fun g => Q g ∨ w.heap.size ≤ g) (fun g => w.heap.size ≤ g) e (aSeal a K z m) ∧ Below w.heap.size w w' := by
  have hx0 := hx
  obtain ⟨Am, cm, Ab, cb, rfl, hM, hBx, hA⟩ := hx
  obtain ⟨p, hp⟩ : ∃ p, p = ((w.alloc (.cells (alc a.free a.seed a.fresh (.slice Am a.macs.length cm) (.slice Ab a.boxes.length cb)) 28)).alloc (.cells (K.map byt).toArray 23)).alloc (.cells zar 28) := ⟨_, rfl⟩
  have hr : ALRow p w.heap.size a.free a.seed a.fresh (.slice Am a.macs.length cm) (.slice Ab a.boxes.length cb) := by rw [hp]; exact ((Whole.here _ _ _).alloc _).alloc _
  have hk : TGRow p (w.heap.size + 1) K := by rw [hp]; exact (Whole.at_ _ _ _ _ (by simp)).alloc _
  have h6 : Whole p (w.heap.size + 1 + 1) 28 zar := by rw [hp]; exact Whole.at_ _ _ _ _ (by simp)
  have hb : Below w.heap.size w p := by rw [hp]; exact (((Below.refl _ _).alloc (Nat.le_refl _) _).alloc (by simp) _).alloc (by simp; omega) _
  have hsp : w.heap.size + 1 + 1 + 1 ≤ p.heap.size := by have := h6.lt; omega
  obtain ⟨R, hR⟩ : ∃ R, R = aSeal a K z m := ⟨_, rfl⟩
  have hRR := hR
  unfold aSeal at hRR
  rw [← hR]
  have HRR := Lib.hid hRR
  have HAV := Lib.hid hx0
  have HMC := Lib.hid hM
  have HBX := Lib.hid hBx
  have HA := Lib.hid hA
  have HM := Lib.hid hm
  have HTT := Lib.hid hT
  have HNN := Lib.hid hN
  have HLEN := Lib.hid hlen
  have HZ := Lib.hid hz
  have H1 : Hid (Below w.heap.size w p) := Lib.hid (hb)
  have H2 : Hid (Whole p w.heap.size 28 (alc a.free a.seed a.fresh (.slice Am a.macs.length cm) (.slice Ab a.boxes.length cb))) := Lib.hid (hr)
  have H3 : Hid (TGRow p (w.heap.size + 1) K) := Lib.hid (hk)
  have H4 : Hid (Whole p (w.heap.size + 1 + 1) 28 zar) := Lib.hid (h6)
  clear hRR hR hx0 hM hBx hA hm hr hk h6 hb hT hN hz
  by_cases hz0 : z < 0
  · skip
    have HC : Hid (R = (zalg, [], 1)) := Lib.hid (by rw [HRR.out, if_pos (.inl hz0)])
    go_enter Tryd.func33, Tryd.ntmps33
    go_upto_region 1 with fail
    rw [zar_lit, ← hp]
    clear hp
    go_wp2_with (with_reducible refine wpList_store_alg rfl _ _ rfl (g := (w.heap.size + 1 + 1)) rfl rfl H4.out zar_size rfl (by with_unfolding_all rfl) ?_)
    rw [zar_lit]
    have e1 := Whole.setRow H4.out zar
    have HG := Lib.hid (below_setRow H1.out (g := (w.heap.size + 1 + 1)) (by omega) zar)
    refine bodyPost_ret (results_algb Tryd.results33 _ rfl _ rfl _ rfl zar_size e1) rfl ?_
    show SeR _ _ _ _ R ∧ _
    rw [HC.out]
    exact ⟨⟨_, _, rfl, alv_zero _ _, bytes_nil _ _⟩, HG.out⟩
  by_cases hz1 : 281474976710656 < z
  · skip
    have HC : Hid (R = (zalg, [], 1)) := Lib.hid (by rw [HRR.out, if_pos (.inr hz1)])
    go_enter Tryd.func33, Tryd.ntmps33
    go_upto_region 1 with fail
    rw [zar_lit, ← hp]
    clear hp
    go_wp2_with (with_reducible refine wpList_store_alg rfl _ _ rfl (g := (w.heap.size + 1 + 1)) rfl rfl H4.out zar_size rfl (by with_unfolding_all rfl) ?_)
    rw [zar_lit]
    have e1 := Whole.setRow H4.out zar
    have HG := Lib.hid (below_setRow H1.out (g := (w.heap.size + 1 + 1)) (by omega) zar)
    refine bodyPost_ret (results_algb Tryd.results33 _ rfl _ rfl _ rfl zar_size e1) rfl ?_
    show SeR _ _ _ _ R ∧ _
    rw [HC.out]
    exact ⟨⟨_, _, rfl, alv_zero _ _, bytes_nil _ _⟩, HG.out⟩
  by_cases hbig : 256 < m.length
  · skip
    have HC : Hid (R = (zalg, [], 2)) := Lib.hid (by rw [HRR.out, if_neg (by omega), if_pos hbig])
    have hb1 : (256 : Int) < (m.length : Int) := by omega
    clear hbig
    go_enter Tryd.func33, Tryd.ntmps33
    go_upto_region 1 with fail
    rw [zar_lit, ← hp]
    clear hp
    go_wp2_with (with_reducible refine wpList_store_alg rfl _ _ rfl (g := (w.heap.size + 1 + 1)) rfl rfl H4.out zar_size rfl (by with_unfolding_all rfl) ?_)
    rw [zar_lit]
    have e1 := Whole.setRow H4.out zar
    have HG := Lib.hid (below_setRow H1.out (g := (w.heap.size + 1 + 1)) (by omega) zar)
    refine bodyPost_ret (results_algb Tryd.results33 _ rfl _ rfl _ rfl zar_size e1) rfl ?_
    show SeR _ _ _ _ R ∧ _
    rw [HC.out]
    exact ⟨⟨_, _, rfl, alv_zero _ _, bytes_nil _ _⟩, HG.out⟩
  have hR3 := HRR.out
  rw [if_neg (by omega), if_neg hbig] at hR3
  have HNW := Lib.hid (HNN.out (by omega) (by omega) (by omega))
  have hb1 : ¬ (256 : Int) < (m.length : Int) := by omega
  clear hbig HRR HNN
  obtain ⟨f, hf⟩ : ∃ f, f = fndb a.boxes K z m := ⟨_, rfl⟩
  rw [← hf] at hR3
  have HR2 := Lib.hid hR3
  clear hR3
  have hcl := prec (z := z) (HBX.out.below H1.out (Nat.le_refl _)) HA.out.boxes hK (HM.out.below H1.out (Nat.le_refl _))
  rw [← hf] at hcl
  obtain ⟨c0, c33, c34, c35⟩ := ALRow.cells H2.out
  clear hf c0 c33 c34
  go_enter Tryd.func33, Tryd.ntmps33
  go_upto_region 1 with fail
  rw [zar_lit, ← hp]
  clear hp
  go_wp2_with (with_reducible refine wpList_load_tag rfl _ rfl rfl H3.out (tag_size hK) ?_)
  refine hcl.mono ?_
  rintro e u1 ⟨⟨v0, rfl, hv⟩, hbu⟩
  clear hcl c35 hz0 hz1
  have hsu1 : p.heap.size ≤ u1.heap.size := hbu.size
  have HV := Lib.hid hv
  have H5 : Hid (Below w.heap.size w u1) := Lib.hid ((Below.trans H1.out (Below.mono hbu (Below.size H1.out))))
  have H6 : Hid (Whole u1 w.heap.size 28 (alc a.free a.seed a.fresh (.slice Am a.macs.length cm) (.slice Ab a.boxes.length cb))) := Lib.hid ((Whole.below H2.out hbu (Whole.lt H2.out)))
  have H7 : Hid (TGRow u1 (w.heap.size + 1) K) := Lib.hid ((Whole.below H3.out hbu (Whole.lt H3.out)))
  have H8 : Hid (Whole u1 (w.heap.size + 1 + 1) 28 zar) := Lib.hid ((Whole.below H4.out hbu (Whole.lt H4.out)))
  clear H1 H2 H3 H4
  clear hv hbu
  cases f with
  | some b =>
    go_wp2_with (first
      | (with_reducible refine wpList_load_alg rfl _ rfl rfl H6.out (alc_size _ _ _ _ _) ?_)
      | (with_reducible refine wpList_store_alg rfl _ _ rfl (g := (w.heap.size + 1 + 1)) rfl rfl H8.out zar_size (alc_size _ _ _ _ _) (alc_one _ _ _ _ _ _ _ _ _) ?_))
    have e1 := Whole.setRow H8.out (alc a.free a.seed a.fresh (.slice Am a.macs.length cm) (.slice Ab a.boxes.length cb))
    have HG := Lib.hid (below_setRow H5.out (g := (w.heap.size + 1 + 1)) (by omega) (alc a.free a.seed a.fresh (.slice Am a.macs.length cm) (.slice Ab a.boxes.length cb)))
    have HV2 := Lib.hid ((HV.out.setRow (b := (w.heap.size + 1 + 1)) (fun q hq => by omega) (alc a.free a.seed a.fresh (.slice Am a.macs.length cm) (.slice Ab a.boxes.length cb))).mono (Q' := fun g => w.heap.size ≤ g) fun q _ hq => by omega)
    clear HV
    refine bodyPost_ret (results_algb Tryd.results33 _ rfl _ rfl _ rfl (alc_size _ _ _ _ _) e1) rfl ?_
    show SeR _ _ _ _ R ∧ _
    have hRR : R = (a, b, 0) := HR2.out
    rw [hRR]
    exact ⟨⟨_, _, rfl, (HAV.out.below HG.out (Nat.le_refl _)).mono fun _ _ h => .inl h, HV2.out⟩, HG.out⟩
  | none =>
    obtain ⟨X, hX⟩ : ∃ X, X = boxb a K z m := ⟨_, rfl⟩
    have hlX : X.length = m.length + 40 := by rw [hX]; exact boxb_length _ _ _ _
    have hng : ¬ 65536 ≤ a.boxes.length := by omega
    have hRR : R = ({ a with boxes := a.boxes ++ [⟨K, z, m, X⟩] }, X, 0) := by
      have := HR2.out
      simp only [if_neg hng] at this
      rw [this, hX]
    have HRR := Lib.hid hRR
    have hnb := HNW.out u1 _ _ _ _ _ (HAV.out.below H5.out (Nat.le_refl _)) (HM.out.below H5.out (Nat.le_refl _)) (Tables.below HTT.out (Nat.le_refl _) H5.out)
    rw [← hX] at hnb
    obtain ⟨c0, c33, c34, c35⟩ := ALRow.cells H6.out
    have hln2 : decide ((65536 : Int) ≤ (a.boxes.length : Int)) = false := by simp; omega
    have HLX := Lib.hid hlX
    have HB1 := Lib.hid (And.intro hb1 hml)
    clear hX hRR HR2 hng c0 c33 c34 HV hlX hlen hb1 hml
    obtain ⟨nb, hnb2⟩ : ∃ n, n = a.boxes.length := ⟨_, rfl⟩
    rw [← hnb2] at hln2 c35 hnb ⊢
    have HNB2 := Lib.hid hnb2
    clear hnb2
    have hxa2 := H6.out
    rw [← HNB2.out] at hxa2
    go_wp2_with (first
      | (with_reducible refine wpList_load_alg rfl _ rfl rfl hxa2 (alc_size _ _ _ _ _) ?_)
      | (with_reducible refine wpList_load_tag rfl _ rfl rfl H7.out (tag_size hK) ?_))
    refine hnb.mono ?_
    rintro e u2 ⟨⟨v, rfl, hv⟩, hbu⟩
    clear hnb c35 hln2 hxa2
    have hnb2 := HNB2.out
    subst hnb2
    have hml := HB1.out.2
    have hlX := HLX.out
    have hb1 := HB1.out.1
    have hlX2 : X.length ≤ 5000 := by omega
    clear hlX hb1
    have hsu2 : u1.heap.size ≤ u2.heap.size := hbu.size
    obtain ⟨Av, cv, rfl, -⟩ := id hv
    have H9 : Hid (Below w.heap.size w u2) := Lib.hid ((Below.trans H5.out (Below.mono hbu (Below.size H5.out))))
    have H10 : Hid (Whole u2 w.heap.size 28 (alc a.free a.seed a.fresh (.slice Am a.macs.length cm) (.slice Ab a.boxes.length cb))) := Lib.hid ((Whole.below H6.out hbu (Whole.lt H6.out)))
    have H11 : Hid (TGRow u2 (w.heap.size + 1) K) := Lib.hid ((Whole.below H7.out hbu (Whole.lt H7.out)))
    have H12 : Hid (Whole u2 (w.heap.size + 1 + 1) 28 zar) := Lib.hid ((Whole.below H8.out hbu (Whole.lt H8.out)))
    clear H5 H6 H7 H8
    have H13 : Hid (Bytes u2 (fun q => p.heap.size ≤ q ∧ q < u2.heap.size) (.slice Av X.length cv) X) := Lib.hid (hv.mono fun q hq h => show p.heap.size ≤ q ∧ q < u2.heap.size from ⟨by omega, hq⟩)
    clear hv hbu
    go_upto_region 11 with fail
    have hKl : (K.map byt).length = 32 := by rw [List.length_map, hK]
    have HCC : Hid (∀ W, Below u2.heap.size u2 W → W.rangeAt (w.heap.size + 1) 0 (K.map byt)) := Lib.hid fun W hb => TGRow.range (Whole.below H11.out hb (Whole.lt H11.out))
    have hb0 : Below u2.heap.size u2 u2.drew := Below.drew (Below.refl _ _)
    (try simp only [Act.put])
    go_cut [14] (fun s14 wx => EntP u2 K m X z s14 wx)
    case first =>
      refine wp_region_held_drew (S := fun W : World => W.rangeAt (w.heap.size + 1) 0 (K.map byt)) (by kernel_rfl) (HCC.out _ hb0) (fun hHeld => ?_)
      apply wpAnyH_take (i := 0) rfl (by kernel_rfl) (by kernel_rfl) (by kernel_rfl)
      case hQ => exact fun _ _ _ h => h
      case hS => exact hHeld
      case hy => exact yieldsIf_load_mid (by rfl) 23 _ rfl (w.heap.size + 1) (0) rfl ((K.map byt)) _ (fun w hS => hS) Tryd.underlying23 rfl (by rw [tagSize, hKl])
      (try simp only [List.getElem_toArray, List.getElem_cons_zero, Act.put, List.setIfInBounds_toArray, List.set_cons_zero, List.set_cons_succ])
      apply wpAnyH_take (i := 1) rfl (by kernel_rfl) (by kernel_rfl) (by kernel_rfl)
      case hQ => exact fun _ _ _ h => h
      case hS => exact hHeld
      case hy => (refine Or.inl ⟨by rfl, ?_⟩; intro w hSw; (try go_split_ands); go_simp; (try with_reducible rfl))
      (try simp only [List.getElem_toArray, List.getElem_cons_succ, List.getElem_cons_zero, Act.put, List.setIfInBounds_toArray, List.set_cons_zero, List.set_cons_succ])
      apply wpAnyH_take (i := 2) rfl (by kernel_rfl) (by kernel_rfl) (by kernel_rfl)
      case hQ => exact fun _ _ _ h => h
      case hS => exact hHeld
      case hy => (refine Or.inl ⟨by rfl, ?_⟩; intro w hSw; (try go_split_ands); go_simp; (try with_reducible rfl))
      (try simp only [List.getElem_toArray, List.getElem_cons_succ, List.getElem_cons_zero, Act.put, List.setIfInBounds_toArray, List.set_cons_zero, List.set_cons_succ])
      apply wpAnyH_take (i := 4) rfl (by kernel_rfl) (by kernel_rfl) (by kernel_rfl)
      case hQ => exact fun _ _ _ h => h
      case hS => exact hHeld
      case hy => (refine Or.inl ⟨by rfl, ?_⟩; intro w hSw; (try go_split_ands); go_simp; (try with_reducible rfl))
      (try simp only [List.getElem_toArray, List.getElem_cons_succ, List.getElem_cons_zero, Act.put, List.setIfInBounds_toArray, List.set_cons_zero, List.set_cons_succ])
      refine wpAnyH_ready (rs := [3, 7]) (by kernel_rfl) (by simp) ?_
      refine AllReadyH.cons rfl (fun KK hKK => ?_) (AllReadyH.cons rfl (fun KK hKK => ?_) AllReadyH.nil)
      · (try simp only [List.getElem_toArray, List.getElem_cons_succ, List.getElem_cons_zero])
        go_simp
        go_at_call 44
        refine (clone (.slice B m.length d) m _ u2.drew ((HM.out.below H9.out (Nat.le_refl _)).below hb0 (Nat.le_refl _)) (by omega)).mono ?_
        rintro e1 V1 ⟨y1, rfl, hy1, hv1⟩
        obtain ⟨D1, e1, rfl, -⟩ := id hy1
        have hb1 := Below.trans hb0 (Below.mono hv1 (Below.size hb0))
        have hy1 := hy1.mono (Q' := fun q => u2.heap.size ≤ q ∧ q < V1.heap.size) fun q h1 h2 => ⟨Nat.le_trans (Below.size hb0) h2, h1⟩
        refine hKK.out _ _ (HCC.out _ hb1) (fun hHeld => ?_)
        clear hKK KK
        (try simp only [List.getElem_toArray, List.getElem_cons_succ, List.getElem_cons_zero, Act.put, List.setIfInBounds_toArray, List.set_cons_zero, List.set_cons_succ])
        refine wpAnyH_ready (rs := [5, 7]) (by kernel_rfl) (by simp) ?_
        refine AllReadyH.cons rfl (fun KK hKK => ?_) (AllReadyH.cons rfl (fun KK hKK => ?_) AllReadyH.nil)
        · (try simp only [List.getElem_toArray, List.getElem_cons_succ, List.getElem_cons_zero])
          go_simp
          go_at_call 44
          refine (clone (.slice Av X.length cv) X _ V1 (Bytes.below H13.out hb1 (Nat.le_refl _)) (by omega)).mono ?_
          rintro e1 V2 ⟨y2, rfl, hy2, hv2⟩
          obtain ⟨D2, e2, rfl, -⟩ := id hy2
          have hb2 := Below.trans hb1 (Below.mono hv2 (Below.size hb1))
          have hy2 := hy2.mono (Q' := fun q => u2.heap.size ≤ q ∧ q < V2.heap.size) fun q h1 h2 => ⟨Nat.le_trans (Below.size hb1) h2, h1⟩
          have y1c2 := (hy1.below hv2 (Nat.le_refl _)).mono (Q' := fun q => u2.heap.size ≤ q ∧ q < V2.heap.size) fun q h1 h2 => ⟨h2.1, h1⟩
          refine hKK.out _ _ (HCC.out _ hb2) (fun hHeld => ?_)
          clear hKK KK
          (try simp only [List.getElem_toArray, List.getElem_cons_succ, List.getElem_cons_zero, Act.put, List.setIfInBounds_toArray, List.set_cons_zero, List.set_cons_succ])
          apply wpAnyH_take (i := 6) rfl (by kernel_rfl) (by kernel_rfl) (by kernel_rfl)
          case hQ => exact fun _ _ _ h => h
          case hS => exact hHeld
          case hy => exact yieldsIf_build_box (by rfl) _ _ _ _ rfl (e := ⟨K, z, m, X⟩) hK rfl rfl rfl rfl
          (try simp only [List.getElem_toArray, List.getElem_cons_succ, List.getElem_cons_zero, Act.put, List.setIfInBounds_toArray, List.set_cons_zero, List.set_cons_succ])
          refine wpAnyH_ready (rs := [7]) (by kernel_rfl) (by simp) ?_
          refine AllReadyH.cons rfl (fun KK hKK => ?_) AllReadyH.nil
          (try simp only [List.getElem_toArray, List.getElem_cons_succ, List.getElem_cons_zero])
          go_simp
          rw [zbr_lit]
          obtain ⟨V3, hV3⟩ : ∃ x, x = (V2).alloc (.cells zbr 56) := ⟨_, rfl⟩
          have hv3 : Below V2.heap.size V2 V3 := by rw [hV3]; exact (Below.refl _ _).alloc (Nat.le_refl _) _
          have hb3 : Below u2.heap.size u2 V3 := Below.trans hb2 (Below.mono hv3 (Below.size hb2))
          have g3 : Whole V3 (V2.heap.size) 56 zbr := by rw [hV3]; exact Whole.here _ _ _
          have pg3 : u2.heap.size ≤ V2.heap.size := Below.size hb2
          have y1c3 := (y1c2.mono (Q' := fun q => u2.heap.size ≤ q ∧ q ≠ V2.heap.size) fun q h1 h2 => ⟨h2.1, Nat.ne_of_lt h2.2⟩).below hv3 (Nat.le_refl _)
          have y2c3 := (hy2.mono (Q' := fun q => u2.heap.size ≤ q ∧ q ≠ V2.heap.size) fun q h1 h2 => ⟨h2.1, Nat.ne_of_lt h2.2⟩).below hv3 (Nat.le_refl _)
          rw [← hV3]
          clear hV3
          refine hKK.out _ _ (HCC.out _ hb3) (fun hHeld => ?_)
          clear hKK KK
          (try simp only [List.getElem_toArray, List.getElem_cons_succ, List.getElem_cons_zero, Act.put, List.setIfInBounds_toArray, List.set_cons_zero, List.set_cons_succ])
          refine wpAnyH_ready (rs := [8]) (by kernel_rfl) (by simp) ?_
          refine AllReadyH.cons rfl (fun KK hKK => ?_) AllReadyH.nil
          have hG4 : u2.heap.size ≤ V2.heap.size := pg3
          obtain ⟨V4, hV4⟩ : ∃ x, x = (V3).setRow (V2.heap.size) (bcl ⟨⟨K, z, m, X⟩, D1, e1, D2, e2⟩).toArray := ⟨_, rfl⟩
          have g4 : Whole V4 (V2.heap.size) 56 (bcl ⟨⟨K, z, m, X⟩, D1, e1, D2, e2⟩).toArray := by rw [hV4]; exact Whole.setRow g3 _
          have hb4 : Below u2.heap.size u2 V4 := by rw [hV4]; exact below_setRow hb3 hG4 _
          have z1 : Bytes V4 (fun b => u2.heap.size ≤ b) (.slice D1 m.length e1) m := by rw [hV4]; exact (y1c3.setRow (b := V2.heap.size) (fun q hq => hq.2) _).mono fun q _ hq => hq.1
          have z2 : Bytes V4 (fun b => u2.heap.size ≤ b) (.slice D2 X.length e2) X := by rw [hV4]; exact (y2c3.setRow (b := V2.heap.size) (fun q hq => hq.2) _).mono fun q _ hq => hq.1
          rw [if_pos (by kernel_rfl)]
          refine wp_store_row 56 _ _ rfl (V2.heap.size) _ rfl rfl 56 _ g3 (by rw [boxSize, bcl_size]) (by rw [zbr_size, bcl_size]) (bcl_one1 _) ?_
          rw [← hV4]
          clear hV4
          refine hKK.out _ _ (HCC.out _ hb4) (fun hHeld => ?_)
          clear hKK KK
          (try simp only [List.getElem_toArray, List.getElem_cons_succ, List.getElem_cons_zero, Act.put, List.setIfInBounds_toArray, List.set_cons_zero, List.set_cons_succ])
          refine wpAnyH_done (by kernel_rfl) ?_ _
          go_wp2_with fail
          go_meet
          exact ⟨_, _, _, _, _, rfl, g4, z1, z2, hb4⟩
        · (try simp only [List.getElem_toArray, List.getElem_cons_succ, List.getElem_cons_zero])
          go_simp
          rw [zbr_lit]
          obtain ⟨V5, hV5⟩ : ∃ x, x = (V1).alloc (.cells zbr 56) := ⟨_, rfl⟩
          have hv5 : Below V1.heap.size V1 V5 := by rw [hV5]; exact (Below.refl _ _).alloc (Nat.le_refl _) _
          have hb5 : Below u2.heap.size u2 V5 := Below.trans hb1 (Below.mono hv5 (Below.size hb1))
          have g5 : Whole V5 (V1.heap.size) 56 zbr := by rw [hV5]; exact Whole.here _ _ _
          have pg5 : u2.heap.size ≤ V1.heap.size := Below.size hb1
          have y1c5 := (hy1.mono (Q' := fun q => u2.heap.size ≤ q ∧ q ≠ V1.heap.size) fun q h1 h2 => ⟨h2.1, Nat.ne_of_lt h2.2⟩).below hv5 (Nat.le_refl _)
          rw [← hV5]
          clear hV5
          refine hKK.out _ _ (HCC.out _ hb5) (fun hHeld => ?_)
          clear hKK KK
          (try simp only [List.getElem_toArray, List.getElem_cons_succ, List.getElem_cons_zero, Act.put, List.setIfInBounds_toArray, List.set_cons_zero, List.set_cons_succ])
          refine wpAnyH_ready (rs := [5]) (by kernel_rfl) (by simp) ?_
          refine AllReadyH.cons rfl (fun KK hKK => ?_) AllReadyH.nil
          (try simp only [List.getElem_toArray, List.getElem_cons_succ, List.getElem_cons_zero])
          go_simp
          go_at_call 44
          refine (clone (.slice Av X.length cv) X _ V5 (Bytes.below H13.out hb5 (Nat.le_refl _)) (by omega)).mono ?_
          rintro e1 V6 ⟨y6, rfl, hy6, hv6⟩
          obtain ⟨D6, e6, rfl, -⟩ := id hy6
          have hb6 := Below.trans hb5 (Below.mono hv6 (Below.size hb5))
          have hy6 := hy6.mono (Q' := fun q => u2.heap.size ≤ q ∧ q ≠ V1.heap.size) fun q h1 h2 => ⟨Nat.le_trans (Below.size hb5) h2, Nat.ne_of_gt (Nat.lt_of_lt_of_le (Whole.lt g5) h2)⟩
          have y1c6 := y1c5.below hv6 (Nat.le_refl _)
          have g6 := Whole.below g5 hv6 (Whole.lt g5)
          refine hKK.out _ _ (HCC.out _ hb6) (fun hHeld => ?_)
          clear hKK KK
          (try simp only [List.getElem_toArray, List.getElem_cons_succ, List.getElem_cons_zero, Act.put, List.setIfInBounds_toArray, List.set_cons_zero, List.set_cons_succ])
          apply wpAnyH_take (i := 6) rfl (by kernel_rfl) (by kernel_rfl) (by kernel_rfl)
          case hQ => exact fun _ _ _ h => h
          case hS => exact hHeld
          case hy => exact yieldsIf_build_box (by rfl) _ _ _ _ rfl (e := ⟨K, z, m, X⟩) hK rfl rfl rfl rfl
          (try simp only [List.getElem_toArray, List.getElem_cons_succ, List.getElem_cons_zero, Act.put, List.setIfInBounds_toArray, List.set_cons_zero, List.set_cons_succ])
          refine wpAnyH_ready (rs := [8]) (by kernel_rfl) (by simp) ?_
          refine AllReadyH.cons rfl (fun KK hKK => ?_) AllReadyH.nil
          have hG7 : u2.heap.size ≤ V1.heap.size := pg5
          obtain ⟨V7, hV7⟩ : ∃ x, x = (V6).setRow (V1.heap.size) (bcl ⟨⟨K, z, m, X⟩, D1, e1, D6, e6⟩).toArray := ⟨_, rfl⟩
          have g7 : Whole V7 (V1.heap.size) 56 (bcl ⟨⟨K, z, m, X⟩, D1, e1, D6, e6⟩).toArray := by rw [hV7]; exact Whole.setRow g6 _
          have hb7 : Below u2.heap.size u2 V7 := by rw [hV7]; exact below_setRow hb6 hG7 _
          have z1 : Bytes V7 (fun b => u2.heap.size ≤ b) (.slice D1 m.length e1) m := by rw [hV7]; exact (y1c6.setRow (b := V1.heap.size) (fun q hq => hq.2) _).mono fun q _ hq => hq.1
          have z2 : Bytes V7 (fun b => u2.heap.size ≤ b) (.slice D6 X.length e6) X := by rw [hV7]; exact (hy6.setRow (b := V1.heap.size) (fun q hq => hq.2) _).mono fun q _ hq => hq.1
          rw [if_pos (by kernel_rfl)]
          refine wp_store_row 56 _ _ rfl (V1.heap.size) _ rfl rfl 56 _ g6 (by rw [boxSize, bcl_size]) (by rw [zbr_size, bcl_size]) (bcl_one1 _) ?_
          rw [← hV7]
          clear hV7
          refine hKK.out _ _ (HCC.out _ hb7) (fun hHeld => ?_)
          clear hKK KK
          (try simp only [List.getElem_toArray, List.getElem_cons_succ, List.getElem_cons_zero, Act.put, List.setIfInBounds_toArray, List.set_cons_zero, List.set_cons_succ])
          refine wpAnyH_done (by kernel_rfl) ?_ _
          go_wp2_with fail
          go_meet
          exact ⟨_, _, _, _, _, rfl, g7, z1, z2, hb7⟩
      · (try simp only [List.getElem_toArray, List.getElem_cons_succ, List.getElem_cons_zero])
        go_simp
        rw [zbr_lit]
        obtain ⟨V8, hV8⟩ : ∃ x, x = (u2.alloc (.cells zbr 56)).drew := ⟨_, rfl⟩
        have hv8 : Below u2.heap.size u2 V8 := by rw [hV8]; exact ((Below.refl _ _).alloc (Nat.le_refl _) _).drew
        have hb8 : Below u2.heap.size u2 V8 := hv8
        have g8 : Whole V8 (u2.heap.size) 56 zbr := by rw [hV8]; exact Whole.here _ _ _
        have pg8 : u2.heap.size ≤ u2.heap.size := Nat.le_refl _
        rw [← hV8]
        clear hV8
        refine hKK.out _ _ (HCC.out _ hb8) (fun hHeld => ?_)
        clear hKK KK
        (try simp only [List.getElem_toArray, List.getElem_cons_succ, List.getElem_cons_zero, Act.put, List.setIfInBounds_toArray, List.set_cons_zero, List.set_cons_succ])
        refine wpAnyH_ready (rs := [3]) (by kernel_rfl) (by simp) ?_
        refine AllReadyH.cons rfl (fun KK hKK => ?_) AllReadyH.nil
        (try simp only [List.getElem_toArray, List.getElem_cons_succ, List.getElem_cons_zero])
        go_simp
        go_at_call 44
        refine (clone (.slice B m.length d) m _ V8 ((HM.out.below H9.out (Nat.le_refl _)).below hb8 (Nat.le_refl _)) (by omega)).mono ?_
        rintro e1 V9 ⟨y9, rfl, hy9, hv9⟩
        obtain ⟨D9, e9, rfl, -⟩ := id hy9
        have hb9 := Below.trans hb8 (Below.mono hv9 (Below.size hb8))
        have hy9 := hy9.mono (Q' := fun q => u2.heap.size ≤ q ∧ q ≠ u2.heap.size) fun q h1 h2 => ⟨Nat.le_trans (Below.size hb8) h2, Nat.ne_of_gt (Nat.lt_of_lt_of_le (Whole.lt g8) h2)⟩
        have g9 := Whole.below g8 hv9 (Whole.lt g8)
        refine hKK.out _ _ (HCC.out _ hb9) (fun hHeld => ?_)
        clear hKK KK
        (try simp only [List.getElem_toArray, List.getElem_cons_succ, List.getElem_cons_zero, Act.put, List.setIfInBounds_toArray, List.set_cons_zero, List.set_cons_succ])
        refine wpAnyH_ready (rs := [5]) (by kernel_rfl) (by simp) ?_
        refine AllReadyH.cons rfl (fun KK hKK => ?_) AllReadyH.nil
        (try simp only [List.getElem_toArray, List.getElem_cons_succ, List.getElem_cons_zero])
        go_simp
        go_at_call 44
        refine (clone (.slice Av X.length cv) X _ V9 (Bytes.below H13.out hb9 (Nat.le_refl _)) (by omega)).mono ?_
        rintro e1 V10 ⟨y10, rfl, hy10, hv10⟩
        obtain ⟨D10, e10, rfl, -⟩ := id hy10
        have hb10 := Below.trans hb9 (Below.mono hv10 (Below.size hb9))
        have hy10 := hy10.mono (Q' := fun q => u2.heap.size ≤ q ∧ q ≠ u2.heap.size) fun q h1 h2 => ⟨Nat.le_trans (Below.size hb9) h2, Nat.ne_of_gt (Nat.lt_of_lt_of_le (Whole.lt g9) h2)⟩
        have y1c10 := hy9.below hv10 (Nat.le_refl _)
        have g10 := Whole.below g9 hv10 (Whole.lt g9)
        refine hKK.out _ _ (HCC.out _ hb10) (fun hHeld => ?_)
        clear hKK KK
        (try simp only [List.getElem_toArray, List.getElem_cons_succ, List.getElem_cons_zero, Act.put, List.setIfInBounds_toArray, List.set_cons_zero, List.set_cons_succ])
        apply wpAnyH_take (i := 6) rfl (by kernel_rfl) (by kernel_rfl) (by kernel_rfl)
        case hQ => exact fun _ _ _ h => h
        case hS => exact hHeld
        case hy => exact yieldsIf_build_box (by rfl) _ _ _ _ rfl (e := ⟨K, z, m, X⟩) hK rfl rfl rfl rfl
        (try simp only [List.getElem_toArray, List.getElem_cons_succ, List.getElem_cons_zero, Act.put, List.setIfInBounds_toArray, List.set_cons_zero, List.set_cons_succ])
        refine wpAnyH_ready (rs := [8]) (by kernel_rfl) (by simp) ?_
        refine AllReadyH.cons rfl (fun KK hKK => ?_) AllReadyH.nil
        have hG11 : u2.heap.size ≤ u2.heap.size := pg8
        obtain ⟨V11, hV11⟩ : ∃ x, x = (V10).setRow (u2.heap.size) (bcl ⟨⟨K, z, m, X⟩, D9, e9, D10, e10⟩).toArray := ⟨_, rfl⟩
        have g11 : Whole V11 (u2.heap.size) 56 (bcl ⟨⟨K, z, m, X⟩, D9, e9, D10, e10⟩).toArray := by rw [hV11]; exact Whole.setRow g10 _
        have hb11 : Below u2.heap.size u2 V11 := by rw [hV11]; exact below_setRow hb10 hG11 _
        have z1 : Bytes V11 (fun b => u2.heap.size ≤ b) (.slice D9 m.length e9) m := by rw [hV11]; exact (y1c10.setRow (b := u2.heap.size) (fun q hq => hq.2) _).mono fun q _ hq => hq.1
        have z2 : Bytes V11 (fun b => u2.heap.size ≤ b) (.slice D10 X.length e10) X := by rw [hV11]; exact (hy10.setRow (b := u2.heap.size) (fun q hq => hq.2) _).mono fun q _ hq => hq.1
        rw [if_pos (by kernel_rfl)]
        refine wp_store_row 56 _ _ rfl (u2.heap.size) _ rfl rfl 56 _ g10 (by rw [boxSize, bcl_size]) (by rw [zbr_size, bcl_size]) (bcl_one1 _) ?_
        rw [← hV11]
        clear hV11
        refine hKK.out _ _ (HCC.out _ hb11) (fun hHeld => ?_)
        clear hKK KK
        (try simp only [List.getElem_toArray, List.getElem_cons_succ, List.getElem_cons_zero, Act.put, List.setIfInBounds_toArray, List.set_cons_zero, List.set_cons_succ])
        refine wpAnyH_done (by kernel_rfl) ?_ _
        go_wp2_with fail
        go_meet
        exact ⟨_, _, _, _, _, rfl, g11, z1, z2, hb11⟩
    case rest =>
      obtain ⟨G, D, D2, dc, dc2, rfl, hrow, hy1, hy2, hbu⟩ := hcut
      rename World => wc
      have hswc : u2.heap.size ≤ wc.heap.size := hbu.size
      clear HCC hb0 hKl
      have H14 : Hid (Below w.heap.size w wc) := Lib.hid ((Below.trans H9.out (Below.mono hbu (Below.size H9.out))))
      have H15 : Hid (Whole wc w.heap.size 28 (alc a.free a.seed a.fresh (.slice Am a.macs.length cm) (.slice Ab a.boxes.length cb))) := Lib.hid ((Whole.below H10.out hbu (Whole.lt H10.out)))
      have H16 : Hid (TGRow wc (w.heap.size + 1) K) := Lib.hid ((Whole.below H11.out hbu (Whole.lt H11.out)))
      have H17 : Hid (Whole wc (w.heap.size + 1 + 1) 28 zar) := Lib.hid ((Whole.below H12.out hbu (Whole.lt H12.out)))
      have H18 : Hid (Bytes wc (fun q => p.heap.size ≤ q ∧ q < u2.heap.size) (.slice Av X.length cv) X) := Lib.hid ((Bytes.below H13.out hbu (Nat.le_refl _)))
      clear H9 H10 H11 H12 H13
      clear hbu
      obtain ⟨L1, hL1, hS1, hB1⟩ := HBX.out
      have hL1l : L1.length = a.boxes.length := by rw [← hL1, List.length_map]
      obtain ⟨E, hE⟩ : ∃ E : BxM, E = ⟨⟨K, z, m, X⟩, D, dc, D2, dc2⟩ := ⟨_, rfl⟩
      have hEok : bok E := by rw [hE]; exact ⟨hK, HZ.out, by show m.length ≤ 5000; have := HB1.out.1; omega, by show X.length ≤ 5000; omega⟩
      have hEe : E.e = ⟨K, z, m, X⟩ := by rw [hE]
      have hy1' : Bytes wc (fun b => u2.heap.size ≤ b) (.slice E.A E.e.plain.length E.c) E.e.plain := by rw [hE]; exact hy1
      have hy2' : Bytes wc (fun b => u2.heap.size ≤ b) (.slice E.A2 E.e.box.length E.c2) E.e.box := by rw [hE]; exact hy2
      rw [← hE] at hrow
      obtain ⟨W5, hW5⟩ : ∃ x, x = (wc.alloc (.cells (bcl E).toArray 56)).alloc (.cells #[.slice Ab a.boxes.length cb, .slice (some ⟨wc.heap.size, 0, none⟩) 1 1] 26) := ⟨_, rfl⟩
      have hb5 : Below wc.heap.size wc W5 := by rw [hW5]; exact ((Below.refl _ _).alloc (Nat.le_refl _) _).alloc (by simp) _
      have hx1 : Whole W5 wc.heap.size 56 (bcl E).toArray := by rw [hW5]; exact (Whole.here _ _ _).alloc _
      have hx2 : Whole W5 (wc.heap.size + 1) 26 #[.slice Ab a.boxes.length cb, .slice (some ⟨wc.heap.size, 0, none⟩) 1 1] := by rw [hW5]; exact Whole.at_ _ _ _ _ (by simp)
      have hb5w := Below.trans H14.out (Below.mono hb5 (Below.size H14.out))
      have hcl := concatb (wc.heap.size + 1) Ab (some ⟨wc.heap.size, 0, none⟩) cb 1 L1 [E] Q _ W5 (by rw [hL1l]; exact hx2.cell 0) (hx2.cell 1) (hS1.below hb5w (Nat.le_refl _)) (seq_one hx1 rfl hEok) (by simp) (by have := HLEN.out; simp only [List.length_singleton]; omega)
      have HROW := Lib.hid hrow
      have HY := Lib.hid (And.intro (hy1'.below hb5 (Nat.le_refl _)) (hy2'.below hb5 (Nat.le_refl _)))
      have hsW5 : wc.heap.size + 2 ≤ W5.heap.size := by rw [hW5]; simp
      obtain ⟨c0, c33, c34, c35⟩ := ALRow.cells H15.out
      have HL1 := Lib.hid hL1
      have HB12 := Lib.hid hB1
      have HOK : Hid (∀ x ∈ L1 ++ [E], bok x) := Lib.hid fun x hx => by
        rcases List.mem_append.1 hx with h | h
        · exact hS1.2.2.2.1 x h
        · rw [List.mem_singleton.1 h]; exact hEok
      have HEE := Lib.hid hEe
      clear hL1 hS1 hB1 hL1l hE hEok hEe hy1 hy2 hy1' hy2' hrow hx1 hx2 hb5w c0 c33 c34
      go_wp2_with (first
        | (with_reducible refine wpList_load_box rfl _ rfl rfl HROW.out (bcl_size _) ?_)
        | (with_reducible refine wpList_buildSlice_box rfl _ rfl wc.heap.size rfl _ rfl rfl ?_))
      rw [← hW5]
      refine hcl.mono ?_
      rintro e w4 ⟨v', rfl, ho, hb4⟩
      have H19 : Hid (Below w.heap.size w W5) := Lib.hid ((Below.trans H14.out (Below.mono hb5 (Below.size H14.out))))
      have H20 : Hid (Whole W5 w.heap.size 28 (alc a.free a.seed a.fresh (.slice Am a.macs.length cm) (.slice Ab a.boxes.length cb))) := Lib.hid ((Whole.below H15.out hb5 (Whole.lt H15.out)))
      have H21 : Hid (TGRow W5 (w.heap.size + 1) K) := Lib.hid ((Whole.below H16.out hb5 (Whole.lt H16.out)))
      have H22 : Hid (Whole W5 (w.heap.size + 1 + 1) 28 zar) := Lib.hid ((Whole.below H17.out hb5 (Whole.lt H17.out)))
      have H23 : Hid (Bytes W5 (fun q => p.heap.size ≤ q ∧ q < u2.heap.size) (.slice Av X.length cv) X) := Lib.hid ((Bytes.below H18.out hb5 (Nat.le_refl _)))
      clear H14 H15 H16 H17 H18
      have hsw4 : W5.heap.size ≤ w4.heap.size := hb4.size
      have H24 : Hid (Below w.heap.size w w4) := Lib.hid ((Below.trans H19.out (Below.mono hb4 (Below.size H19.out))))
      have H25 : Hid (Whole w4 w.heap.size 28 (alc a.free a.seed a.fresh (.slice Am a.macs.length cm) (.slice Ab a.boxes.length cb))) := Lib.hid ((Whole.below H20.out hb4 (Whole.lt H20.out)))
      have H26 : Hid (TGRow w4 (w.heap.size + 1) K) := Lib.hid ((Whole.below H21.out hb4 (Whole.lt H21.out)))
      have H27 : Hid (Whole w4 (w.heap.size + 1 + 1) 28 zar) := Lib.hid ((Whole.below H22.out hb4 (Whole.lt H22.out)))
      have H28 : Hid (Bytes w4 (fun q => p.heap.size ≤ q ∧ q < u2.heap.size) (.slice Av X.length cv) X) := Lib.hid ((Bytes.below H23.out hb4 (Nat.le_refl _)))
      clear H19 H20 H21 H22 H23
      obtain ⟨A5, c5, rfl, hS5⟩ := OwnS.seq ho HOK.out
      obtain ⟨n5, hn5⟩ : ∃ n, n = (L1 ++ [E]).length := ⟨_, rfl⟩
      rw [← hn5]
      have HN5 := Lib.hid hn5
      have HS5 := Lib.hid hS5
      have HY4 := Lib.hid (And.intro (HY.out.1.below hb4 (Nat.le_refl _)) (HY.out.2.below hb4 (Nat.le_refl _)))
      clear hcl c35 hW5 hb5 ho hn5 hS5 hb4
      obtain ⟨d0, d33, d34, d35⟩ := ALRow.cells H25.out
      have f35 := ALRow.frees H25.out 35
      clear d0 d33 d34
      go_upto_region 13 with fail
      clear d35 f35
      obtain ⟨u5, hu⟩ : ∃ x, x = w4.setCell ⟨w.heap.size, 35, none⟩ (.slice A5 n5 c5) := ⟨_, rfl⟩
      have hru : ALRow u5 w.heap.size a.free a.seed a.fresh (.slice Am a.macs.length cm) (.slice A5 n5 c5) := by rw [hu]; exact ALRow.set35 H25.out _
      have h6u : Whole u5 (w.heap.size + 1 + 1) 28 zar := by rw [hu]; exact Whole.far H27.out (by show _ ≠ w.heap.size; omega) _
      have bbu : Below w.heap.size w u5 := by rw [hu]; exact H24.out.setCell (p := ⟨w.heap.size, 35, none⟩) (Nat.le_refl _) _
      have kp0 : ∀ b, p.heap.size ≤ b → u5.heap[b]? = w4.heap[b]? := by rw [hu]; exact fun b hb => heap_setCell_other w4 ⟨w.heap.size, 35, none⟩ b _ (by show b ≠ w.heap.size; omega)
      have sz0 : w4.heap.size ≤ u5.heap.size := by rw [hu]; exact ((Below.refl 0 w4).setCell (p := ⟨w.heap.size, 35, none⟩) (Nat.zero_le _) _).size
      rw [← hu]
      clear hu
      go_wp2_with (first
        | (with_reducible refine wpList_load_alg rfl _ rfl rfl hru (alc_size _ _ _ _ _) ?_)
        | (with_reducible refine wpList_store_alg rfl _ _ rfl (g := (w.heap.size + 1 + 1)) rfl rfl h6u zar_size (alc_size _ _ _ _ _) (alc_one _ _ _ _ _ _ _ _ _) ?_))
      obtain ⟨X1, hX1⟩ : ∃ x, x = u5.setRow (w.heap.size + 1 + 1) (alc a.free a.seed a.fresh (.slice Am a.macs.length cm) (.slice A5 n5 c5)) := ⟨_, rfl⟩
      have e1 : Whole X1 (w.heap.size + 1 + 1) 28 (alc a.free a.seed a.fresh (.slice Am a.macs.length cm) (.slice A5 n5 c5)) := by rw [hX1]; exact Whole.setRow h6u _
      have hbf : Below w.heap.size w X1 := by rw [hX1]; exact below_setRow bbu (by omega) _
      have kp : ∀ b, p.heap.size ≤ b → X1.heap[b]? = w4.heap[b]? := by rw [hX1]; exact fun b hb => (setRow_other _ _ b _ (by omega)).trans (kp0 b hb)
      have szk : w4.heap.size ≤ X1.heap.size := by rw [hX1]; exact Nat.le_trans sz0 (below_setRow (B := 0) (Below.refl 0 _) (Nat.zero_le _) _).size
      rw [← hX1]
      clear hX1
      refine bodyPost_ret (results_algb Tryd.results33 _ rfl _ rfl _ rfl (alc_size _ _ _ _ _) e1) rfl ?_
      show SeR _ _ _ _ R ∧ _
      rw [HRR.out]
      have HVF := Lib.hid ((Bytes.keep H28.out fun b _ hq => kp b hq.1).mono (Q' := fun g => w.heap.size ≤ g) fun q _ hq => by have := hq.1; omega)
      refine ⟨⟨_, _, rfl, ?_, HVF.out⟩, hbf⟩
      rw [HN5.out]
      have h := alv_moreb (w := w) (Q := Q) (a := a) (X := E) HL1.out (fun x hx => ⟨((HB12.out x hx).1.below hbf (Nat.le_refl _)).mono fun _ _ h => .inl h, ((HB12.out x hx).2.below hbf (Nat.le_refl _)).mono fun _ _ h => .inl h⟩) ((HS5.out.keep szk fun g _ hq => kp g (by have hq : W5.heap.size ≤ g := hq; omega)).mono fun g _ h => (by have h : W5.heap.size ≤ g := h; omega : w.heap.size ≤ g))
        ((HY4.out.1.keep fun g _ hq => kp g (by omega)).mono fun g _ h => (by omega : w.heap.size ≤ g)) ((HY4.out.2.keep fun g _ hq => kp g (by omega)).mono fun g _ h => (by omega : w.heap.size ≤ g)) (HMC.out.below hbf (Nat.le_refl _)) HA.out HLEN.out
      rw [HEE.out] at h
      exact h
end Go.Proofs.YteglmfimgdgchaaDoor
namespace Go.Proofs.YteglmfimgdgchaaDoor
open Go Go.RowKit Sh Leaf

set_option linter.unusedSimpArgs false in
set_option linter.unusedVariables false in
set_option maxRecDepth 100000 in
set_option maxHeartbeats 4000000 in
theorem porec {w : World} {Q Q2 : Nat → Prop} {A B : Option Addr} {c d : Nat} {bs : List Bx} {K m : List B8} (hx : Bxs w Q A c bs) (hn : bs.length ≤ 1000) (hK : K.length = 32) (hm : Bytes w Q2 (.slice B m.length d) m) :
    Calls Tryd.prog 54 #[.slice A bs.length c, .agg (K.map byt).toArray, .slice B m.length d] w fun e w' => (∃ v, e = .returned (.tuple #[v, .int .i64 (if (fndo bs K m).isSome = true then 0 else 14)]) ∧ Bytes w' (fun g => w.heap.size ≤ g) v ((fndo bs K m).getD [])) ∧ Below w.heap.size w w' := by
  obtain ⟨R, hR⟩ : ∃ R, R = fndo bs K m := ⟨_, rfl⟩
  obtain ⟨p, hp⟩ : ∃ p, p = w.alloc (.cells (K.map byt).toArray 23) := ⟨_, rfl⟩
  have hb : Below w.heap.size w p := by rw [hp]; exact (Below.refl _ _).alloc (Nat.le_refl _) _
  have hsp : w.heap.size + 1 ≤ p.heap.size := by rw [hp]; simp
  have hk : TGRow p w.heap.size K := by rw [hp]; exact Whole.here _ _ _
  have hx0 := (hx.mono (Q' := fun b => b < w.heap.size) fun b hb _ => hb).below hb (Nat.le_refl _)
  have hm0 := (hm.mono (Q' := fun b => b < w.heap.size) fun b hb _ => hb).below hb (Nat.le_refl _)
  rw [← hR]
  have H1 : Hid (Below w.heap.size w p) := Lib.hid (hb)
  have H2 : Hid (TGRow p w.heap.size K) := Lib.hid (hk)
  have H3 : Hid (Bxs p (fun b => b < w.heap.size) A c bs) := Lib.hid (hx0)
  have H4 : Hid (Bytes p (fun b => b < w.heap.size) (.slice B m.length d) m) := Lib.hid (hm0)
  have HR := Lib.hid hR
  clear hR hb hk hx0 hm0 hx hm
  go_enter Tryd.func54, Tryd.ntmps54
  go_upto_region 1 with fail
  rw [← hp]
  clear hp
  go_wp2_with fail
  go_loopw [12] (fun v wr => ∃ j : Nat, v = .int .i64 j ∧ j ≤ bs.length ∧ fndo (bs.drop j) K m = R ∧ Below p.heap.size p wr) (fun v _ => bs.length - (intOf v).toNat)
  case atStart => exact ⟨0, rfl, by omega, by rw [List.drop_zero]; exact HR.out.symm, Below.refl _ _⟩
  case round =>
    obtain ⟨j, rfl, hj, hf, hbw⟩ := hrel
    have hswr : p.heap.size ≤ wr.heap.size := hbw.size
    have HF := Lib.hid hf
    clear hf
    have H5 : Hid (Below p.heap.size p p) := Lib.hid (Below.refl _ _)
    have H6 : Hid (Below w.heap.size w wr) := Lib.hid ((Below.trans H1.out (Below.mono hbw (Below.size H1.out))))
    have H7 : Hid (TGRow wr w.heap.size K) := Lib.hid ((Whole.below H2.out hbw (Whole.lt H2.out)))
    have H8 : Hid (Bxs wr (fun b => b < w.heap.size) A c bs) := Lib.hid ((Bxs.below H3.out hbw (Nat.le_refl _)))
    have H9 : Hid (Bytes wr (fun b => b < w.heap.size) (.slice B m.length d) m) := Lib.hid ((Bytes.below H4.out hbw (Nat.le_refl _)))
    have H10 : Hid (Below p.heap.size p wr) := Lib.hid ((Below.trans H5.out (Below.mono hbw (Below.size H5.out))))
    clear H1 H2 H3 H4 H5
    clear hbw
    by_cases hlt : j < bs.length
    case neg =>
      obtain rfl : j = bs.length := by omega
      have hRn : R = none := by have := HF.out; rw [fndo_end] at this; exact this.symm
      subst hRn
      have HG := Lib.hid H6.out
      go_wp2_with fail
      go_ret2
      exact ⟨⟨_, rfl, bytes_nil _ _⟩, HG.out⟩
    case pos =>
      obtain ⟨e, he⟩ : ∃ e, bs[j]? = some e := ⟨_, List.getElem?_eq_getElem hlt⟩
      obtain ⟨g0, o, D, dc, D2, dc2, hA, hq, hg, hrow, -, hby, hbx, hk32, hnc, hp5, hb5⟩ := Bxs.get H8.out j e he
      obtain ⟨E, hE⟩ : ∃ E : BxM, E = ⟨e, D, dc, D2, dc2⟩ := ⟨_, rfl⟩
      rw [← hE] at hrow
      have hEe : E.e = e := by rw [hE]
      have HX := Lib.hid (And.intro hEe (And.intro (show E.A = D by rw [hE]) (And.intro (show E.c = dc by rw [hE]) (And.intro (show E.A2 = D2 by rw [hE]) (show E.c2 = dc2 by rw [hE])))))
      have HD := Lib.hid (fndo_drop he K m)
      have j0 : (0 : Int) ≤ (j : Int) := by omega
      have jn : (j : Int) < (bs.length : Int) := by omega
      have HA := Lib.hid hA
      subst hA
      have H11 : Hid (Bytes wr (fun b => b < w.heap.size) (.slice D e.plain.length dc) e.plain) := Lib.hid (hby)
      have H12 : Hid (Bytes wr (fun b => b < w.heap.size) (.slice D2 e.box.length dc2) e.box) := Lib.hid (hbx)
      clear hE hEe he hby hbx hq
      have ks0 : ∀ z0 : Array Value, Whole (wr.alloc (.cells z0 56)) wr.heap.size 56 z0 := fun _ => (Whole.here _ _ _)
      go_upto_region 4 with (first
        | (with_reducible refine wpList_load_mid rfl 56 _ rfl g0 (o + j * 35) rfl _ _ hrow Tryd.underlying56 rfl (bcl_sz _) ?_)
        | (with_reducible refine wpList_store_box rfl _ _ rfl (g := wr.heap.size) rfl rfl (ks0 _) rfl (bcl_size _) (bcl_one1 _) ?_))
      clear ks0
      rw [zbr_lit]
      obtain ⟨q1, hq⟩ : ∃ q, q = ((wr.alloc (.cells zbr 56)).setRow wr.heap.size (bcl E).toArray) := ⟨_, rfl⟩
      rw [← hq]
      have hsq1 : wr.heap.size + 1 ≤ q1.heap.size := by rw [hq]; simp
      have H13 : Hid (Below w.heap.size w q1) := Lib.hid (by rw [hq]; exact (below_setRow (Below.trans H6.out (Below.mono (Below.alloc (Below.refl _ _) (Nat.le_refl _) _) (Below.size H6.out))) (by omega) _))
      have H14 : Hid (TGRow q1 w.heap.size K) := Lib.hid (by rw [hq]; exact (Whole.setRow_far (Whole.below H7.out (Below.alloc (Below.refl _ _) (Nat.le_refl _) _) (Whole.lt H7.out)) (by omega) _))
      have H15 : Hid (Bytes q1 (fun b => b < w.heap.size) (.slice B m.length d) m) := Lib.hid (by rw [hq]; exact (Bytes.keep (Bytes.below H9.out (Below.alloc (Below.refl _ _) (Nat.le_refl _) _) (Nat.le_refl _)) fun b _ hq => setRow_other _ _ _ _ (by omega)))
      have H16 : Hid (Below p.heap.size p q1) := Lib.hid (by rw [hq]; exact (below_setRow (Below.trans H10.out (Below.mono (Below.alloc (Below.refl _ _) (Nat.le_refl _) _) (Below.size H10.out))) (by omega) _))
      have H17 : Hid (Bytes q1 (fun b => b < w.heap.size) (.slice D e.plain.length dc) e.plain) := Lib.hid (by rw [hq]; exact (Bytes.keep (Bytes.below H11.out (Below.alloc (Below.refl _ _) (Nat.le_refl _) _) (Nat.le_refl _)) fun b _ hq => setRow_other _ _ _ _ (by omega)))
      have H18 : Hid (Bytes q1 (fun b => b < w.heap.size) (.slice D2 e.box.length dc2) e.box) := Lib.hid (by rw [hq]; exact (Bytes.keep (Bytes.below H12.out (Below.alloc (Below.refl _ _) (Nat.le_refl _) _) (Nat.le_refl _)) fun b _ hq => setRow_other _ _ _ _ (by omega)))
      clear H6 H7 H9 H10 H11 H12
      have H19 : Hid (Whole q1 wr.heap.size 56 (bcl E).toArray) := Lib.hid (by rw [hq]; exact (Whole.setRow (Whole.here _ _ _) _))
      clear hq
      have hEk : E.e.key.length = 32 := by rw [HX.out.1]; exact hk32
      have r1 : q1.rangeAt wr.heap.size 0 (e.key.map byt) := by have := BXRow.key H19.out hEk; rw [HX.out.1] at this; exact this
      have r2 := BXRow.cells H19.out
      rw [HX.out.1, HX.out.2.1, HX.out.2.2.1, HX.out.2.2.2.1, HX.out.2.2.2.2] at r2
      obtain ⟨r32, r33, r34⟩ := r2
      have kq := fun W => run_eql_tag hk32 hK W
      have hkT := H14.out
      by_cases hke : e.key = K
      case neg =>
        rw [decide_eq_false hke] at kq
        have HKE := Lib.hid hke
        clear hke
        have hnx : fndo (bs.drop (j + 1)) K m = R := by have := HF.out; rw [HD.out, if_neg (fun h => HKE.out h.1)] at this; exact this
        have HNX := Lib.hid hnx
        clear hnx
        go_wp2_with (first
          | (with_reducible refine wpList_load_mid rfl 23 _ rfl wr.heap.size 0 rfl _ _ r1 Tryd.underlying23 rfl (by rw [tagSize, List.length_map, hk32]) ?_)
          | (with_reducible refine wpList_load_tag rfl _ rfl rfl hkT (tag_size hK) ?_))
        clear kq r1 r32 r33 r34 hkT
        go_roundw
        case rel => exact ⟨j + 1, by go_num, by omega, HNX.out, H16.out⟩
        case measure => simp [intOf]; omega
      case pos =>
        rw [decide_eq_true hke] at kq
        have HKE := Lib.hid hke
        clear hke
        obtain ⟨D3, hD3⟩ : ∃ D, decide (e.box = m) = D := ⟨_, rfl⟩
        have hcl := bequal D2 B dc2 d e.box m _ _ q1 H18.out H15.out
        rw [hD3] at hcl
        go_wp2_with (first
          | (with_reducible refine wpList_load_mid rfl 23 _ rfl wr.heap.size 0 rfl _ _ r1 Tryd.underlying23 rfl (by rw [tagSize, List.length_map, hk32]) ?_)
          | (with_reducible refine wpList_load_tag rfl _ rfl rfl hkT (tag_size hK) ?_))
        refine hcl.mono ?_
        rintro e1 w1 ⟨rfl, hww⟩
        replace hww := hww.symm
        subst hww
        clear hcl kq r1 hkT
        cases D3
        case false =>
          have hne := of_decide_eq_false hD3
          clear hD3
          have hnx : fndo (bs.drop (j + 1)) K m = R := by have := HF.out; rw [HD.out, if_neg (fun h => hne h.2)] at this; exact this
          have HNX := Lib.hid hnx
          clear hnx hne
          go_wp2_with fail
          clear r32 r33 r34
          go_roundw
          case rel => exact ⟨j + 1, by go_num, by omega, HNX.out, H16.out⟩
          case measure => simp [intOf]; omega
        case true =>
          have heq := of_decide_eq_true hD3
          clear hD3
          have hRs : R = some e.plain := by have := HF.out; rw [HD.out, if_pos ⟨HKE.out, heq⟩] at this; exact this.symm
          clear heq
          subst hRs
          have hcl := clone (.slice D e.plain.length dc) e.plain _ q1 H17.out (by omega)
          go_wp2_with fail
          refine hcl.mono ?_
          rintro e1 w2 ⟨v2, rfl, hv2, hb2⟩
          clear hcl r32 r33 r34
          have HG := Lib.hid (Below.trans H13.out (Below.mono hb2 (Below.size H13.out)))
          have HV := Lib.hid (hv2.mono (Q' := fun g => w.heap.size ≤ g) fun b _ hq => by have := Below.size H13.out; omega)
          clear hv2 hb2
          go_wp2_with fail
          go_ret2
          exact ⟨⟨_, rfl, HV.out⟩, HG.out⟩
end Go.Proofs.YteglmfimgdgchaaDoor
namespace Go.Proofs.YteglmfimgdgchaaDoor
open Go Go.RowKit Sh Leaf

namespace Sh
/-- Open in a computed algebra. -/
def cOpen (k b : List B8) : List B8 × Int :=
  if b.length < 40 ∨ 296 < b.length then ([], 14)
  else if hmac k (boxw ++ b.take (b.length - 32)) = b.drop (b.length - 32) then (strm k (beval (b.take 8)) ((b.take (b.length - 32)).drop 8), 0) else ([], 14)
theorem aOpen_free {a : Alg} {k b : List B8} (h : a.free = true) : aOpen a k b = ((fndo a.boxes k b).getD [], if (fndo a.boxes k b).isSome = true then 0 else 14) := by
  unfold aOpen
  rw [if_pos h]
  cases fndo a.boxes k b <;> rfl
theorem aOpen_comp {a : Alg} {k b : List B8} (h : a.free = false) : aOpen a k b = cOpen k b := by
  unfold aOpen cOpen
  rw [if_neg (by rw [h]; simp)]
end Sh
/-- Bytes and a number. -/
def OpR (w : World) (Q : Nat → Prop) (e : Ending) (r : List B8 × Int) : Prop := ∃ v, e = .returned (.tuple #[v, .int .i64 r.2]) ∧ Bytes w Q v r.1
/-- What a call of openComputed answers. -/
def OpenC (K m : List B8) : Prop := ∀ (W : World) (Q2 : Nat → Prop) (B : Option Addr) (d : Nat), Bytes W Q2 (.slice B m.length d) m → Tables W →
  Calls Tryd.prog 55 #[.agg (K.map byt).toArray, .slice B m.length d] W fun e w' => OpR w' (fun g => W.heap.size ≤ g) e (cOpen K m) ∧ Below W.heap.size W w'
set_option linter.unusedSimpArgs false in
set_option linter.unusedVariables false in
set_option maxRecDepth 100000 in
set_option maxHeartbeats 4000000 in
theorem popen {w : World} {Q Q2 : Nat → Prop} {x : Value} {B : Option Addr} {d : Nat} {a : Alg} {K m : List B8} (hx : AlV w Q x a) (hK : K.length = 32) (hm : Bytes w Q2 (.slice B m.length d) m) (hT : Tables w) (hC : a.free = false → OpenC K m) :
    Calls Tryd.prog 36 #[x, .agg (K.map byt).toArray, .slice B m.length d] w fun e w' => OpR w' (fun g => w.heap.size ≤ g) e (aOpen a K m) ∧ Below w.heap.size w w' := by
  obtain ⟨Am, cm, Ab, cb, rfl, -, hBx, hA⟩ := hx
  obtain ⟨p, hp⟩ : ∃ p, p = (w.alloc (.cells (alc a.free a.seed a.fresh (.slice Am a.macs.length cm) (.slice Ab a.boxes.length cb)) 28)).alloc (.cells (K.map byt).toArray 23) := ⟨_, rfl⟩
  have hr : ALRow p w.heap.size a.free a.seed a.fresh (.slice Am a.macs.length cm) (.slice Ab a.boxes.length cb) := by rw [hp]; exact (Whole.here _ _ _).alloc _
  have hk : TGRow p (w.heap.size + 1) K := by rw [hp]; exact Whole.at_ _ _ _ _ (by simp)
  have hb : Below w.heap.size w p := by rw [hp]; exact ((Below.refl _ _).alloc (Nat.le_refl _) _).alloc (by simp) _
  have hsp : w.heap.size + 2 ≤ p.heap.size := by rw [hp]; simp
  obtain ⟨c0, c33, c34, c35⟩ := ALRow.cells hr
  obtain ⟨f, hf⟩ : ∃ f, f = a.free := ⟨_, rfl⟩
  have HB := Lib.hid hb
  have HK := Lib.hid hk
  obtain ⟨R, hR⟩ : ∃ R, R = aOpen a K m := ⟨_, rfl⟩
  rw [← hR]
  have hBp := hBx.below hb (Nat.le_refl _)
  have hmp := hm.below hb (Nat.le_refl _)
  have hTp := hT.below (Nat.le_refl _) hb
  have han := hA.boxes
  rw [← hf] at c0
  cases f
  · skip
    have hRR : R = cOpen K m := by rw [hR]; exact aOpen_comp hf.symm
    have hcl := hC hf.symm p _ B d hmp hTp
    rw [← hRR] at hcl
    clear hR hRR hr hk hb c33 c34 c35 hBx hBp hmp hTp hm hT hC hA han hf
    go_enter Tryd.func36, Tryd.ntmps36
    go_upto_region 1 with fail
    rw [← hp]
    clear hp
    go_wp2_with (with_reducible refine wpList_load_tag rfl _ rfl rfl HK.out (tag_size hK) ?_)
    refine hcl.mono ?_
    rintro e u ⟨⟨v, rfl, hv⟩, hbu⟩
    clear hcl c0
    have HG := Lib.hid (HB.out.trans (hbu.mono (Below.size HB.out)))
    have HV := Lib.hid (hv.mono (Q' := fun g => w.heap.size ≤ g) fun q _ hq => by omega)
    clear hv hbu
    go_wp2_with fail
    go_ret2
    exact ⟨⟨_, rfl, HV.out⟩, HG.out⟩
  · skip
    have hRR : R = ((fndo a.boxes K m).getD [], if (fndo a.boxes K m).isSome = true then 0 else 14) := by rw [hR]; exact aOpen_free hf.symm
    have hcl := porec hBp han hK hmp
    obtain ⟨R1, hR1⟩ : ∃ r : Int, r = (if (fndo a.boxes K m).isSome = true then 0 else 14) := ⟨_, rfl⟩
    obtain ⟨R0, hR0⟩ : ∃ r, r = (fndo a.boxes K m).getD [] := ⟨_, rfl⟩
    rw [← hR1, ← hR0] at hcl hRR
    subst hRR
    clear hR hR0 hR1 hr hk hb c33 c34 hBx hBp hmp hTp hm hT hC hA han hf
    go_enter Tryd.func36, Tryd.ntmps36
    go_upto_region 1 with fail
    rw [← hp]
    clear hp
    go_wp2_with (with_reducible refine wpList_load_tag rfl _ rfl rfl HK.out (tag_size hK) ?_)
    refine hcl.mono ?_
    rintro e u ⟨⟨v, rfl, hv⟩, hbu⟩
    clear hcl c0 c35
    have HG := Lib.hid (HB.out.trans (hbu.mono (Below.size HB.out)))
    have HV := Lib.hid (hv.mono (Q' := fun g => w.heap.size ≤ g) fun q _ hq => by omega)
    clear hv hbu
    go_wp2_with fail
    go_ret2
    exact ⟨⟨_, rfl, HV.out⟩, HG.out⟩
end Go.Proofs.YteglmfimgdgchaaDoor
namespace Go.Proofs.YteglmfimgdgchaaDoor
open Go Go.RowKit Sh Leaf

set_option maxRecDepth 100000 in
theorem built_free (f : Bool) : Tryd.prog.built 28 [(0, .bool f)] = some (Value.bool f :: (List.replicate 32 (Value.int .u8 0) ++ ([.int .i64 0, .slice none 0 0, .slice none 0 0] : List Value))).toArray := by kernel_rfl
theorem wpList_build_free {w : World} {ops : Array Oper} {rest : List Oper} {o : Oper} {a : Act} {Q : Exit → Act → World → Prop} (hgd : o.guard = none) (x : Operand) (ho : o.op = .build 28 #[(0, x)])
    (f : Bool) (hx : a.eval x = .bool f) (h : wpList Tryd.prog ops Q rest (a.put o.dst (.agg (alc f ztag 0 (.slice none 0 0) (.slice none 0 0)))) w) : wpList Tryd.prog ops Q (o :: rest) a w := by
  refine wpList_build_as hgd 28 _ ho _ ?_ h
  have e : (#[(0, x)].map fun (i, x) => (i, a.eval x)).toList = [(0, .bool f)] := by simp [hx]
  rw [e, built_free]
  unfold alc alcl
  rw [p32_eq (by simp), List.map_replicate]
  unfold byt
  rw [bv_zero]
/-- The zero algebra, free. -/
abbrev freeA : Alg := ⟨true, ztag, 0, [], []⟩
theorem free_av (w : World) (Q : Nat → Prop) : AlV w Q (.agg (alc true ztag 0 (.slice none 0 0) (.slice none 0 0))) freeA := ⟨none, 0, none, 0, rfl, Macs.nil _ _, Bxs.nil _ _, ⟨by simp, by simp, by simp, by simp, by simp⟩⟩
namespace Sh
theorem seal_le (a : Alg) (K : List B8) (z : Int) (m : List B8) : (aSeal a K z m).1.boxes.length ≤ a.boxes.length + 1 := by
  unfold aSeal
  split
  · exact Nat.zero_le _
  split
  · exact Nat.zero_le _
  split
  · exact Nat.le_succ _
  split
  · exact Nat.zero_le _
  · show (a.boxes ++ [_]).length ≤ _
    rw [List.length_append]; simp
/-- The first box of a free algebra. -/
theorem seal_first {K m : List B8} {z : Int} (hz : 0 ≤ z ∧ z ≤ 1000) (hm : m.length ≤ 256) : aSeal freeA K z m = (⟨true, ztag, 0, [], [⟨K, z, m, sym 98#8 1 ++ List.replicate (m.length + 8) 0⟩]⟩, sym 98#8 1 ++ List.replicate (m.length + 8) 0, 0) := by
  unfold aSeal
  rw [if_neg (by omega), if_neg (by omega)]
  rfl
theorem box_ne {n n' : Nat} {z z' : Int} (h : z ≠ z') (h0 : 0 ≤ z) (h1 : z < 100000) (h2 : 0 ≤ z') (h3 : z' < 100000) : sym 98#8 z ++ List.replicate n (0 : B8) ≠ sym 98#8 z' ++ List.replicate n' (0 : B8) := fun e => by
  have := congrArg (List.take 32) e
  rw [List.take_left' (sym_length _ _), List.take_left' (sym_length _ _)] at this
  exact sym_ne2 h h0 h1 h2 h3 this
/-- What the law of free algebras answers. -/
theorem boxfree_all {b c : Alg} {K L X Y U p q : List B8} {i j e f g : Int} (hi : 0 ≤ i ∧ i < 3) (hj : 0 ≤ j ∧ j < 3) (hp : p.length ≤ 100) (hq : q.length ≤ 100) (h1 : (b, X, e) = aSeal freeA K i p) (h2 : (c, Y, f) = aSeal b L j q) (h3 : (U, g) = aOpen c L X) :
    e = 0 ∧ f = 0 ∧ decide (X = Y) = decide (K = L ∧ i = j ∧ p = q) ∧ (K = L → g = 0 ∧ U = p) ∧ (K ≠ L → g = 14) := by
  rw [seal_first (by omega) (by omega)] at h1
  injection h1 with h1 e1; injection e1 with e1 e2
  subst h1 e1 e2
  by_cases hs : K = L ∧ i = j ∧ p = q
  · obtain ⟨rfl, rfl, rfl⟩ := hs
    have h4 : aSeal ⟨true, ztag, 0, [], [⟨K, i, p, sym 98#8 1 ++ List.replicate (p.length + 8) 0⟩]⟩ K i p = (⟨true, ztag, 0, [], [⟨K, i, p, sym 98#8 1 ++ List.replicate (p.length + 8) 0⟩]⟩, sym 98#8 1 ++ List.replicate (p.length + 8) 0, 0) := by
      unfold aSeal
      rw [if_neg (by omega), if_neg (by omega)]
      have : fndb [(⟨K, i, p, sym 98#8 1 ++ List.replicate (p.length + 8) 0⟩ : Bx)] K i p = some (sym 98#8 1 ++ List.replicate (p.length + 8) 0) := by unfold fndb; simp
      simp only [this]
    rw [h4] at h2
    injection h2 with h2 e1; injection e1 with e1 e2
    subst h2 e1 e2
    have h5 : aOpen ⟨true, ztag, 0, [], [⟨K, i, p, sym 98#8 1 ++ List.replicate (p.length + 8) 0⟩]⟩ K (sym 98#8 1 ++ List.replicate (p.length + 8) 0) = (p, 0) := by
      unfold aOpen
      rw [if_pos rfl]
      have : fndo [(⟨K, i, p, sym 98#8 1 ++ List.replicate (p.length + 8) 0⟩ : Bx)] K (sym 98#8 1 ++ List.replicate (p.length + 8) 0) = some p := by unfold fndo; simp
      simp only [this]
    rw [h5] at h3
    injection h3 with h3 e1
    exact ⟨rfl, rfl, by simp, fun _ => ⟨e1, h3⟩, fun h => absurd rfl h⟩
  · have h4 : aSeal ⟨true, ztag, 0, [], [⟨K, i, p, sym 98#8 1 ++ List.replicate (p.length + 8) 0⟩]⟩ L j q = (⟨true, ztag, 0, [], [⟨K, i, p, sym 98#8 1 ++ List.replicate (p.length + 8) 0⟩, ⟨L, j, q, sym 98#8 2 ++ List.replicate (q.length + 8) 0⟩]⟩, sym 98#8 2 ++ List.replicate (q.length + 8) 0, 0) := by
      unfold aSeal
      rw [if_neg (by omega), if_neg (by omega)]
      have : fndb [(⟨K, i, p, sym 98#8 1 ++ List.replicate (p.length + 8) 0⟩ : Bx)] L j q = none := by unfold fndb; simp only [List.find?_cons, decide_eq_false hs]; rfl
      simp only [this]
      rfl
    rw [h4] at h2
    injection h2 with h2 e1; injection e1 with e1 e2
    subst h2 e1 e2
    have hne : sym 98#8 1 ++ List.replicate (p.length + 8) (0 : B8) ≠ sym 98#8 2 ++ List.replicate (q.length + 8) 0 := box_ne (by decide) (by decide) (by decide) (by decide) (by decide)
    refine ⟨rfl, rfl, by rw [decide_eq_false hne, decide_eq_false hs], fun hk => ?_, fun hk => ?_⟩
    · subst hk
      have h5 : aOpen ⟨true, ztag, 0, [], [⟨K, i, p, sym 98#8 1 ++ List.replicate (p.length + 8) 0⟩, ⟨K, j, q, sym 98#8 2 ++ List.replicate (q.length + 8) 0⟩]⟩ K (sym 98#8 1 ++ List.replicate (p.length + 8) 0) = (p, 0) := by
        unfold aOpen
        rw [if_pos rfl]
        have : fndo [(⟨K, i, p, sym 98#8 1 ++ List.replicate (p.length + 8) 0⟩ : Bx), ⟨K, j, q, sym 98#8 2 ++ List.replicate (q.length + 8) 0⟩] K (sym 98#8 1 ++ List.replicate (p.length + 8) 0) = some p := by unfold fndo; simp
        simp only [this]
      rw [h5] at h3
      injection h3 with h3 e1
      exact ⟨e1, h3⟩
    · have h5 : aOpen ⟨true, ztag, 0, [], [⟨K, i, p, sym 98#8 1 ++ List.replicate (p.length + 8) 0⟩, ⟨L, j, q, sym 98#8 2 ++ List.replicate (q.length + 8) 0⟩]⟩ L (sym 98#8 1 ++ List.replicate (p.length + 8) 0) = ([], 14) := by
        unfold aOpen
        rw [if_pos rfl]
        have : fndo [(⟨K, i, p, sym 98#8 1 ++ List.replicate (p.length + 8) 0⟩ : Bx), ⟨L, j, q, sym 98#8 2 ++ List.replicate (q.length + 8) 0⟩] L (sym 98#8 1 ++ List.replicate (p.length + 8) 0) = none := by
          unfold fndo
          rw [List.find?_cons, decide_eq_false (fun h => hk h.1)]
          simp only
          rw [List.find?_cons, decide_eq_false (fun h => hne h.2.symm)]
          rfl
        simp only [this]
      rw [h5] at h3
      injection h3 with h3 e1
end Sh
end Go.Proofs.YteglmfimgdgchaaDoor
namespace Go.Proofs.YteglmfimgdgchaaDoor
open Go Go.RowKit Sh Leaf

theorem bawk_all {b : Alg} {X U V : List B8} {e f h : Int} (h1 : (b, X, e) = aSeal freeA (tg1 1#8) 0 [5#8, 6#8]) (h2 : (U, f) = aOpen b (tg1 1#8) X) (h3 : (V, h) = aOpen b (tg1 2#8) X) : e = 0 ∧ f = 0 ∧ h = 14 ∧ X.length = 42 ∧ U = [5#8, 6#8] ∧ b.free = true := by
  rw [seal_first (by omega) (by decide)] at h1
  injection h1 with h1 e1; injection e1 with e1 e2
  subst h1 e1 e2
  have h4 : aOpen ⟨true, ztag, 0, [], [⟨tg1 1#8, 0, [5#8, 6#8], sym 98#8 1 ++ List.replicate (([5#8, 6#8] : List B8).length + 8) 0⟩]⟩ (tg1 1#8) (sym 98#8 1 ++ List.replicate (([5#8, 6#8] : List B8).length + 8) 0) = ([5#8, 6#8], 0) := by
    unfold aOpen
    rw [if_pos rfl]
    have : fndo [(⟨tg1 1#8, 0, [5#8, 6#8], sym 98#8 1 ++ List.replicate (([5#8, 6#8] : List B8).length + 8) 0⟩ : Bx)] (tg1 1#8) (sym 98#8 1 ++ List.replicate (([5#8, 6#8] : List B8).length + 8) 0) = some [5#8, 6#8] := by unfold fndo; simp
    simp only [this]
  rw [h4] at h2
  injection h2 with h2 e1
  have h5 : aOpen ⟨true, ztag, 0, [], [⟨tg1 1#8, 0, [5#8, 6#8], sym 98#8 1 ++ List.replicate (([5#8, 6#8] : List B8).length + 8) 0⟩]⟩ (tg1 2#8) (sym 98#8 1 ++ List.replicate (([5#8, 6#8] : List B8).length + 8) 0) = ([], 14) := by
    unfold aOpen
    rw [if_pos rfl]
    have hk : tg1 1#8 ≠ tg1 2#8 := fun e => by
      unfold tg1 at e
      injection e with e _
      exact absurd e (by decide)
    have : fndo [(⟨tg1 1#8, 0, [5#8, 6#8], sym 98#8 1 ++ List.replicate (([5#8, 6#8] : List B8).length + 8) 0⟩ : Bx)] (tg1 2#8) (sym 98#8 1 ++ List.replicate (([5#8, 6#8] : List B8).length + 8) 0) = none := by
      unfold fndo
      rw [List.find?_cons, decide_eq_false (fun h => hk h.1)]
      rfl
    simp only [this]
  rw [h5] at h3
  injection h3 with h3 e3
  exact ⟨rfl, e1, e3, by rw [List.length_append, sym_length]; rfl, h2, rfl⟩
set_option linter.unusedSimpArgs false in
set_option linter.unusedVariables false in
set_option maxRecDepth 100000 in
set_option maxHeartbeats 8000000 in
theorem bawk (w : World) (hT : Tables w) : Calls Tryd.prog 35 #[] w fun e w' => e = .returned (.bool true) ∧ Below w.heap.size w w' := by
  have HT := Lib.hid hT
  clear hT
  have hl2 := own_lit w w.heap.size [5#8, 6#8] (Nat.le_refl _) (by simp)
  have hby := Bytes.of_own (l := [5#8, 6#8]) hl2
  have ec : ([5#8, 6#8] : List B8).map byt = [.int .u8 5, .int .u8 6] := by
    simp only [List.map_cons, List.map_nil]
    rw [show byt 5#8 = .int .u8 5 from byt_lit 5 (by omega), show byt 6#8 = .int .u8 6 from byt_lit 6 (by omega)]
  rw [ec] at hby
  obtain ⟨p, hp⟩ : ∃ p, p = w.alloc (.cells ([.int .u8 5, .int .u8 6] : List Value).toArray 5) := ⟨_, rfl⟩
  have hbp : Below w.heap.size w p := by rw [hp]; exact (Below.refl _ _).alloc (Nat.le_refl _) _
  have hsp : w.heap.size + 1 ≤ p.heap.size := by rw [hp]; simp
  rw [← hp] at hby
  clear hl2
  go_enter Tryd.func35, Tryd.ntmps35
  have H1 : Hid (Below w.heap.size w p) := Lib.hid (hbp)
  have H2 : Hid (AlV p (Off []) (.agg (alc true ztag 0 (.slice none 0 0) (.slice none 0 0))) freeA) := Lib.hid (free_av p (Off []))
  clear hbp
  have hlf : freeA.boxes.length = 0 := rfl
  have hcl := pseal (z := 0) (m := [5#8, 6#8]) H2.out (by simp) (tg1_len 1#8) (show i64q 0 from ⟨by omega, by omega⟩) hby (by simp) (Tables.below HT.out (Nat.le_refl _) H1.out) (fun _ _ _ => newb_free rfl (tg1_len 1#8) (by simp))
  obtain ⟨R, hR⟩ : ∃ R, R = aSeal freeA (tg1 1#8) 0 [5#8, 6#8] := ⟨_, rfl⟩
  rw [← hR] at hcl
  obtain ⟨b, X, e0⟩ := R
  have HEb := Lib.hid hR
  clear hR hlf
  dsimp only [SeR] at hcl
  go_wp2_with (first
    | (with_reducible refine wpList_build_free rfl _ rfl true rfl ?_)
    | (with_reducible refine wpList_build_tag1 rfl _ rfl 1#8 byt1 rfl ?_))
  first | rw [← hp] | (rw [show (#[.int .u8 5, .int .u8 6] : Array Value) = ([.int .u8 5, .int .u8 6] : List Value).toArray by rfl, ← hp])
  refine hcl.mono ?_
  rintro e u1 ⟨⟨x, v, rfl, hx, hv⟩, hbu⟩
  clear hcl hby hp
  obtain ⟨AvX, cvX, rfl, -⟩ := id hv
  obtain ⟨Amb, cmb, Abb, cbb, rfl, hM, hBx, hA⟩ := hx
  have hsu1 : p.heap.size ≤ u1.heap.size := hbu.size
  have H3 : Hid (Below w.heap.size w u1) := Lib.hid ((Below.trans H1.out (Below.mono hbu (Below.size H1.out))))
  have H4 : Hid (AlV u1 (Off []) (.agg (alc true ztag 0 (.slice none 0 0) (.slice none 0 0))) freeA) := Lib.hid ((AlV.below H2.out hbu (Nat.le_refl _)))
  clear H1 H2
  clear H4
  have H5 : Hid (AlV u1 (Off []) (.agg (alc b.free b.seed b.fresh (.slice Amb b.macs.length cmb) (.slice Abb b.boxes.length cbb))) b) := Lib.hid (AlV.mono ⟨Amb, cmb, Abb, cbb, rfl, hM, hBx, hA⟩ (fun _ _ _ y hy => by cases hy))
  have H6 : Hid (Bytes u1 (Off []) (.slice AvX X.length cvX) X) := Lib.hid (hv.mono fun _ _ _ y hy => by cases hy)
  clear hM hBx hA hbu hv
  have ks0 : ∀ z0 : Array Value, Whole (u1.alloc (.cells z0 28)) u1.heap.size 28 z0 := fun _ => (Whole.here _ _ _)
  go_upto_region 2 with (with_reducible refine wpList_store_alg rfl _ _ rfl (g := u1.heap.size) rfl rfl (ks0 _) rfl (alc_size _ _ _ _ _) (alc_one _ _ _ _ _ _ _ _ _) ?_)
  clear ks0
  rw [zar_lit]
  obtain ⟨q1, hq⟩ : ∃ q, q = ((u1.alloc (.cells zar 28)).setRow u1.heap.size (alc b.free b.seed b.fresh (.slice Amb b.macs.length cmb) (.slice Abb b.boxes.length cbb))) := ⟨_, rfl⟩
  rw [← hq]
  have hsq1 : u1.heap.size + 1 ≤ q1.heap.size := by rw [hq]; simp
  have H7 : Hid (Below w.heap.size w q1) := Lib.hid (by rw [hq]; exact (below_setRow (Below.trans H3.out (Below.mono (Below.alloc (Below.refl _ _) (Nat.le_refl _) _) (Below.size H3.out))) (by omega) _))
  have H8 : Hid (AlV q1 (Off [u1.heap.size]) (.agg (alc b.free b.seed b.fresh (.slice Amb b.macs.length cmb) (.slice Abb b.boxes.length cbb))) b) := Lib.hid (by rw [hq]; exact (AlV.store (AlV.below (AlV.grow H5.out (by omega)) (Below.alloc (Below.refl _ _) (Nat.le_refl _) _) (Nat.le_refl _)) (by simp) _))
  have H9 : Hid (Bytes q1 (Off [u1.heap.size]) (.slice AvX X.length cvX) X) := Lib.hid (by rw [hq]; exact (Bytes.store (Bytes.below (Bytes.grow H6.out (by omega)) (Below.alloc (Below.refl _ _) (Nat.le_refl _) _) (Nat.le_refl _)) (by simp) _))
  clear H3 H5 H6
  have H10 : Hid (ALRow q1 u1.heap.size b.free b.seed b.fresh (.slice Amb b.macs.length cmb) (.slice Abb b.boxes.length cbb)) := Lib.hid (by rw [hq]; exact (Whole.setRow (Whole.here _ _ _) _))
  clear hq
  have hfb : b.free = true := by
    have h1 := HEb.out
    rw [seal_first (by omega) (by decide)] at h1
    injection h1 with h1 _
    rw [h1]
  have HFB := Lib.hid hfb
  clear hfb
  have hcl := popen (m := X) H8.out (tg1_len 1#8) H9.out (Tables.below HT.out (Nat.le_refl _) H7.out) (fun h => by rw [HFB.out] at h; cases h)
  obtain ⟨R, hR⟩ : ∃ R, R = aOpen b (tg1 1#8) X := ⟨_, rfl⟩
  rw [← hR] at hcl
  obtain ⟨U, e1⟩ := R
  have HEU := Lib.hid hR
  clear hR
  dsimp only [OpR] at hcl
  go_wp2_with (first
    | (with_reducible refine wpList_load_alg rfl _ rfl rfl H10.out (alc_size _ _ _ _ _) ?_)
    | (with_reducible refine wpList_build_tag1 rfl _ rfl 1#8 byt1 rfl ?_))
  refine hcl.mono ?_
  rintro e u2 ⟨⟨v, rfl, hv⟩, hbu⟩
  clear hcl
  obtain ⟨AvU, cvU, rfl, -⟩ := id hv
  have hsu2 : q1.heap.size ≤ u2.heap.size := hbu.size
  have hlast : ∀ y ∈ ([u1.heap.size] : List Nat), y < q1.heap.size := by intro y hy; simp at hy; have := (Whole.lt H10.out); omega
  have H11 : Hid (Below w.heap.size w u2) := Lib.hid ((Below.trans H7.out (Below.mono hbu (Below.size H7.out))))
  have H12 : Hid (AlV u2 (Off [u1.heap.size]) (.agg (alc b.free b.seed b.fresh (.slice Amb b.macs.length cmb) (.slice Abb b.boxes.length cbb))) b) := Lib.hid ((AlV.below H8.out hbu (Nat.le_refl _)))
  have H13 : Hid (Bytes u2 (Off [u1.heap.size]) (.slice AvX X.length cvX) X) := Lib.hid ((Bytes.below H9.out hbu (Nat.le_refl _)))
  have H14 : Hid (ALRow u2 u1.heap.size b.free b.seed b.fresh (.slice Amb b.macs.length cmb) (.slice Abb b.boxes.length cbb)) := Lib.hid ((Whole.below H10.out hbu (Whole.lt H10.out)))
  clear H7 H8 H9 H10
  have H15 : Hid (Bytes u2 (Off [u1.heap.size]) (.slice AvU U.length cvU) U) := Lib.hid (Bytes.fresh hv hlast)
  clear hbu hlast hv
  go_upto_region 3 with fail
  have hcl := popen (m := X) H12.out (tg1_len 2#8) H13.out (Tables.below HT.out (Nat.le_refl _) H11.out) (fun h => by rw [HFB.out] at h; cases h)
  obtain ⟨R, hR⟩ : ∃ R, R = aOpen b (tg1 2#8) X := ⟨_, rfl⟩
  rw [← hR] at hcl
  obtain ⟨V, e2⟩ := R
  have HEV := Lib.hid hR
  clear hR
  dsimp only [OpR] at hcl
  go_wp2_with (first
    | (with_reducible refine wpList_load_alg rfl _ rfl rfl H14.out (alc_size _ _ _ _ _) ?_)
    | (with_reducible refine wpList_build_tag1 rfl _ rfl 2#8 byt2 rfl ?_))
  refine hcl.mono ?_
  rintro e u3 ⟨⟨v, rfl, hv⟩, hbu⟩
  clear hcl
  obtain ⟨AvV, cvV, rfl, -⟩ := id hv
  have hsu3 : u2.heap.size ≤ u3.heap.size := hbu.size
  have hlast : ∀ y ∈ ([u1.heap.size] : List Nat), y < u2.heap.size := by intro y hy; simp at hy; have := (Whole.lt H14.out); omega
  have H16 : Hid (Below w.heap.size w u3) := Lib.hid ((Below.trans H11.out (Below.mono hbu (Below.size H11.out))))
  have H17 : Hid (AlV u3 (Off [u1.heap.size]) (.agg (alc b.free b.seed b.fresh (.slice Amb b.macs.length cmb) (.slice Abb b.boxes.length cbb))) b) := Lib.hid ((AlV.below H12.out hbu (Nat.le_refl _)))
  have H18 : Hid (Bytes u3 (Off [u1.heap.size]) (.slice AvX X.length cvX) X) := Lib.hid ((Bytes.below H13.out hbu (Nat.le_refl _)))
  have H19 : Hid (ALRow u3 u1.heap.size b.free b.seed b.fresh (.slice Amb b.macs.length cmb) (.slice Abb b.boxes.length cbb)) := Lib.hid ((Whole.below H14.out hbu (Whole.lt H14.out)))
  have H20 : Hid (Bytes u3 (Off [u1.heap.size]) (.slice AvU U.length cvU) U) := Lib.hid ((Bytes.below H15.out hbu (Nat.le_refl _)))
  clear H11 H12 H13 H14 H15
  have H21 : Hid (Bytes u3 (Off [u1.heap.size]) (.slice AvV V.length cvV) V) := Lib.hid (Bytes.fresh hv hlast)
  clear hbu hlast hv
  go_upto_region 4 with fail
  obtain ⟨rfl, rfl, rfl, hX42, hU, -⟩ := bawk_all HEb.out HEU.out HEV.out
  have hl2 := own_lit u3 u3.heap.size [5#8, 6#8] (Nat.le_refl _) (by simp)
  have hby := Bytes.of_own (l := [5#8, 6#8]) hl2
  rw [ec] at hby
  obtain ⟨q, hq⟩ : ∃ p, p = u3.alloc (.cells ([.int .u8 5, .int .u8 6] : List Value).toArray 5) := ⟨_, rfl⟩
  have hbq : Below u3.heap.size u3 q := by rw [hq]; exact (Below.refl _ _).alloc (Nat.le_refl _) _
  rw [← hq] at hby
  have hcl := same_ _ _ U [5#8, 6#8] _ _ q (Bytes.below H20.out hbq (Nat.le_refl _)) hby (by rw [hU]; simp) (by simp)
  rw [decide_eq_true hU] at hcl
  have HG := Lib.hid (Below.trans H16.out (Below.mono hbq (Below.size H16.out)))
  have HX42 : Hid ((X.length : Int) = 42) := Lib.hid (by omega)
  have hx42 := HX42.out
  clear hl2 hby hU hX42 hbq ec
  go_wp2_with fail
  first | rw [← hq] | (rw [show (#[.int .u8 5, .int .u8 6] : Array Value) = ([.int .u8 5, .int .u8 6] : List Value).toArray by rfl, ← hq])
  refine hcl.mono ?_
  rintro e w9 ⟨rfl, hb9⟩
  clear hcl hx42
  have HG2 := Lib.hid (Below.trans HG.out (Below.mono hb9 (Below.size HG.out)))
  clear hq
  go_wp2
  go_ret
  exact ⟨rfl, HG2.out⟩
end Go.Proofs.YteglmfimgdgchaaDoor
namespace Go.Proofs.YteglmfimgdgchaaDoor
open Go Go.RowKit Sh Leaf

set_option linter.unusedSimpArgs false in
set_option linter.unusedVariables false in
set_option maxRecDepth 100000 in
set_option maxHeartbeats 8000000 in
theorem bfree_law (A0 : Option Addr) (l0 : List Int) (c0 : Nat) {Q1 : Nat → Prop} (A1 : Option Addr) (x : List B8) (c1 : Nat) {Q2 : Nat → Prop} (A2 : Option Addr) (y : List B8) (c2 : Nat) (w : World) (hT : Tables w) (hI0 : Ints w (fun b => b < w.heap.size) A0 c0 l0) (hB1 : Bytes w Q1 (.slice A1 x.length c1) x) (hB2 : Bytes w Q2 (.slice A2 y.length c2) y) :
    Calls Tryd.prog 12 #[.slice A0 l0.length c0, .slice A1 x.length c1, .slice A2 y.length c2] w fun e w' => e = .returned (.bool true) ∧ Below w.heap.size w w' := by
  have HT := Lib.hid hT
  clear hT
  have H1 : Hid (Below w.heap.size w w) := Lib.hid (Below.refl _ _)
  obtain ⟨n0, hn0⟩ : ∃ n, n = l0.length := ⟨_, rfl⟩
  rw [← hn0]
  have HI0 := Lib.hid hI0
  have HN0 := Lib.hid hn0
  clear hI0 hn0
  have H2 : Hid (Bytes w (Off []) (.slice A1 x.length c1) x) := Lib.hid (hB1.mono fun _ _ _ => by intro y hy; cases hy)
  clear hB1
  have H3 : Hid (Bytes w (Off []) (.slice A2 y.length c2) y) := Lib.hid (hB2.mono fun _ _ _ => by intro y hy; cases hy)
  clear hB2
  have EX := Lib.hid (show min (x.length : Int) ((100 : Nat) : Int) = ((x.take 100).length : Int) by rw [List.length_take]; omega)
  have HCX := Lib.hid (H2.out.cut 100)
  have hqX : (x.take 100).length ≤ 100 := by simp; omega
  obtain ⟨A9, c9, e9, h1X, h2X, h3X, -⟩ := id H2.out
  cases e9
  have EY := Lib.hid (show min (y.length : Int) ((100 : Nat) : Int) = ((y.take 100).length : Int) by rw [List.length_take]; omega)
  have HCY := Lib.hid (H3.out.cut 100)
  have hqY : (y.take 100).length ≤ 100 := by simp; omega
  obtain ⟨A9, c9, e9, h1Y, h2Y, h3Y, -⟩ := id H3.out
  cases e9
  go_enter Tryd.func12, Tryd.ntmps12
  go_wp2
  go_quiet (fail)
  rw [show (100 : Int) = ((100 : Nat) : Int) by rfl, EX.out, EY.out]
  simp only [Int.toNat_natCast]
  have hX := HCX.out
  have hY := HCY.out
  clear EX EY HCX HCY h1X h2X h3X h1Y h2Y h3Y
  generalize x.take 100 = X at hX hqX ⊢
  generalize y.take 100 = Y at hY hqY ⊢
  have hX0 := hX.drewN nq
  have hY0 := hY.drewN nq
  have hb0 : Below w.heap.size w (w.drewN nq) := below_drewN (Below.refl _ _) nq
  have hsW0 : w.heap.size ≤ (w.drewN nq).heap.size := hb0.size
  generalize w.drewN nq = W0 at hX0 hY0 hb0 hsW0 ⊢
  clear hX hY
  clear H2 H3
  have H4 : Hid (Below w.heap.size w W0) := Lib.hid ((Below.trans H1.out (Below.mono hb0 (Below.size H1.out))))
  clear H1
  have H5 : Hid (Bytes W0 (Off []) (.slice A1 X.length c1) X) := Lib.hid (hX0)
  have H6 : Hid (Bytes W0 (Off []) (.slice A2 Y.length c2) Y) := Lib.hid (hY0)
  clear hX0 hY0 hb0
  have hcl := dnew A0 _ c0 l0 W0 HN0.out ((HI0.out.below H4.out).mono (Below.size H4.out))
  go_wp2_with fail
  refine hcl.mono ?_
  rintro e d0 ⟨rfl, hdk, hbu⟩
  clear hcl
  have hsd0 : W0.heap.size < d0.heap.size := hdk.lt
  have H7 : Hid (Bytes W0 (Off [W0.heap.size]) (.slice A1 X.length c1) X) := Lib.hid (Bytes.grow H5.out (by omega))
  have H8 : Hid (Bytes W0 (Off [W0.heap.size]) (.slice A2 Y.length c2) Y) := Lib.hid (Bytes.grow H6.out (by omega))
  clear H5 H6
  have H9 : Hid (Below w.heap.size w d0) := Lib.hid ((Below.trans H4.out (Below.mono hbu (Below.size H4.out))))
  have H10 : Hid (Bytes d0 (Off [W0.heap.size]) (.slice A1 X.length c1) X) := Lib.hid ((Bytes.below H7.out hbu (Nat.le_refl _)))
  have H11 : Hid (Bytes d0 (Off [W0.heap.size]) (.slice A2 Y.length c2) Y) := Lib.hid ((Bytes.below H8.out hbu (Nat.le_refl _)))
  clear H4 H7 H8
  have H12 : Hid (Deck W0.heap.size d0) := Lib.hid (hdk)
  clear hdk hbu HI0 HN0
  have hcl := dtag W0.heap.size d0 H12.out
  go_wp2_with fail
  refine hcl.mono ?_
  rintro e u1 ⟨⟨K, hlK, rfl⟩, ht⟩
  clear hcl
  have hsu1 : d0.heap.size ≤ u1.heap.size := Turn.size ht
  have H13 : Hid (Below w.heap.size w u1) := Lib.hid ((base_turn H9.out ht (by omega)))
  have H14 : Hid (Bytes u1 (Off [W0.heap.size]) (.slice A1 X.length c1) X) := Lib.hid ((Bytes.turn H10.out ht (by simp)))
  have H15 : Hid (Bytes u1 (Off [W0.heap.size]) (.slice A2 Y.length c2) Y) := Lib.hid ((Bytes.turn H11.out ht (by simp)))
  have H16 : Hid (Deck W0.heap.size u1) := Lib.hid ((ht).1)
  clear H9 H10 H11 H12
  clear ht
  have hcl := dtag W0.heap.size u1 H16.out
  go_wp2_with fail
  refine hcl.mono ?_
  rintro e u2 ⟨⟨L, hlL, rfl⟩, ht⟩
  clear hcl
  have hsu2 : u1.heap.size ≤ u2.heap.size := Turn.size ht
  have H17 : Hid (Below w.heap.size w u2) := Lib.hid ((base_turn H13.out ht (by omega)))
  have H18 : Hid (Bytes u2 (Off [W0.heap.size]) (.slice A1 X.length c1) X) := Lib.hid ((Bytes.turn H14.out ht (by simp)))
  have H19 : Hid (Bytes u2 (Off [W0.heap.size]) (.slice A2 Y.length c2) Y) := Lib.hid ((Bytes.turn H15.out ht (by simp)))
  have H20 : Hid (Deck W0.heap.size u2) := Lib.hid ((ht).1)
  clear H13 H14 H15 H16
  clear ht
  have ks0 : ∀ z0 z1 : Array Value, Whole ((u2.alloc (.cells z0 23)).alloc (.cells z1 23)) u2.heap.size 23 z0 := fun _ _ => (Whole.alloc (Whole.here _ _ _) _)
  have ks1 : ∀ z0 z1 : Array Value, Whole (((u2.alloc (.cells z0 23)).alloc (.cells z1 23)).setRow u2.heap.size (K.map byt).toArray) (u2.heap.size + 1) 23 z1 := fun _ _ => (Whole.setRow_far (Whole.at_ _ _ _ _ (by simp)) (by omega) _)
  go_upto_region 4 with (first
    | (with_reducible refine wpList_store_tag rfl _ _ rfl (g := u2.heap.size) rfl rfl (ks0 _ _) rfl (tag_size hlK) (tag_one _) ?_)
    | (with_reducible refine wpList_store_tag rfl _ _ rfl (g := (u2.heap.size + 1)) rfl rfl (ks1 _ _) rfl (tag_size hlL) (tag_one _) ?_))
  clear ks0 ks1
  rw [ztr_lit]
  obtain ⟨q3, hq⟩ : ∃ q, q = ((((u2.alloc (.cells ztr 23)).alloc (.cells ztr 23)).setRow u2.heap.size (K.map byt).toArray).setRow (u2.heap.size + 1) (L.map byt).toArray) := ⟨_, rfl⟩
  rw [← hq]
  have hsq3 : u2.heap.size + 2 ≤ q3.heap.size := by rw [hq]; simp
  have H21 : Hid (Below w.heap.size w q3) := Lib.hid (by rw [hq]; exact (below_setRow (below_setRow (Below.trans H17.out (Below.mono (Below.alloc (Below.alloc (Below.refl _ _) (Nat.le_refl _) _) (by simp) _) (Below.size H17.out))) (by omega) _) (by omega) _))
  have H22 : Hid (Bytes q3 (Off [(u2.heap.size + 1), u2.heap.size, W0.heap.size]) (.slice A1 X.length c1) X) := Lib.hid (by rw [hq]; exact (Bytes.store (Bytes.store (Bytes.below (Bytes.grow (Bytes.grow H18.out (by omega)) (by omega)) (Below.alloc (Below.alloc (Below.refl _ _) (Nat.le_refl _) _) (by simp) _) (Nat.le_refl _)) (by simp) _) (by simp) _))
  have H23 : Hid (Bytes q3 (Off [(u2.heap.size + 1), u2.heap.size, W0.heap.size]) (.slice A2 Y.length c2) Y) := Lib.hid (by rw [hq]; exact (Bytes.store (Bytes.store (Bytes.below (Bytes.grow (Bytes.grow H19.out (by omega)) (by omega)) (Below.alloc (Below.alloc (Below.refl _ _) (Nat.le_refl _) _) (by simp) _) (Nat.le_refl _)) (by simp) _) (by simp) _))
  have H24 : Hid (Deck W0.heap.size q3) := Lib.hid (by rw [hq]; exact (Deck.store (Deck.store (Deck.below H20.out (Below.alloc (Below.alloc (Below.refl _ _) (Nat.le_refl _) _) (by simp) _) (Deck.lt H20.out)) (by omega) _) (by omega) _))
  clear H17 H18 H19 H20
  have H25 : Hid (TGRow q3 u2.heap.size K) := Lib.hid (by rw [hq]; exact (Whole.setRow_far (Whole.setRow (Whole.alloc (Whole.here _ _ _) _) _) (by omega) _))
  have H26 : Hid (TGRow q3 (u2.heap.size + 1) L) := Lib.hid (by rw [hq]; exact (Whole.setRow (Whole.setRow_far (Whole.at_ _ _ _ _ (by simp)) (by omega) _) _))
  clear hq
  have hcl := dnext 3 (by omega) (by omega) W0.heap.size q3 H24.out
  go_wp2_with fail
  refine hcl.mono ?_
  rintro e u4 ⟨i, hlti, rfl, ht⟩
  clear hcl
  have hsu4 : q3.heap.size ≤ u4.heap.size := Turn.size ht
  have H27 : Hid (Below w.heap.size w u4) := Lib.hid ((base_turn H21.out ht (by omega)))
  have H28 : Hid (Bytes u4 (Off [(u2.heap.size + 1), u2.heap.size, W0.heap.size]) (.slice A1 X.length c1) X) := Lib.hid ((Bytes.turn H22.out ht (by simp)))
  have H29 : Hid (Bytes u4 (Off [(u2.heap.size + 1), u2.heap.size, W0.heap.size]) (.slice A2 Y.length c2) Y) := Lib.hid ((Bytes.turn H23.out ht (by simp)))
  have H30 : Hid (Deck W0.heap.size u4) := Lib.hid ((ht).1)
  have H31 : Hid (TGRow u4 u2.heap.size K) := Lib.hid (((ht).2.2.oth _ _ _ (by omega) H25.out))
  have H32 : Hid (TGRow u4 (u2.heap.size + 1) L) := Lib.hid (((ht).2.2.oth _ _ _ (by omega) H26.out))
  clear H21 H22 H23 H24 H25 H26
  clear ht
  have hcl := dnext 3 (by omega) (by omega) W0.heap.size u4 H30.out
  go_wp2_with fail
  refine hcl.mono ?_
  rintro e u5 ⟨j, hltj, rfl, ht⟩
  clear hcl
  have hsu5 : u4.heap.size ≤ u5.heap.size := Turn.size ht
  have H33 : Hid (Below w.heap.size w u5) := Lib.hid ((base_turn H27.out ht (by omega)))
  have H34 : Hid (Bytes u5 (Off [(u2.heap.size + 1), u2.heap.size, W0.heap.size]) (.slice A1 X.length c1) X) := Lib.hid ((Bytes.turn H28.out ht (by simp)))
  have H35 : Hid (Bytes u5 (Off [(u2.heap.size + 1), u2.heap.size, W0.heap.size]) (.slice A2 Y.length c2) Y) := Lib.hid ((Bytes.turn H29.out ht (by simp)))
  have H36 : Hid (Deck W0.heap.size u5) := Lib.hid ((ht).1)
  have H37 : Hid (TGRow u5 u2.heap.size K) := Lib.hid (((ht).2.2.oth _ _ _ (by omega) H31.out))
  have H38 : Hid (TGRow u5 (u2.heap.size + 1) L) := Lib.hid (((ht).2.2.oth _ _ _ (by omega) H32.out))
  clear H27 H28 H29 H30 H31 H32
  clear ht
  clear H36
  go_upto_region 5 with fail
  have H39 : Hid (AlV u5 (Off [(u2.heap.size + 1), u2.heap.size, W0.heap.size]) (.agg (alc true ztag 0 (.slice none 0 0) (.slice none 0 0))) freeA) := Lib.hid (free_av _ _)
  have hlf : freeA.boxes.length = 0 := rfl
  have hcl := pseal (z := (i : Int)) (m := X) H39.out (by omega) hlK (show i64q (i : Int) from ⟨by omega, by omega⟩) H34.out (by omega) (Tables.below HT.out (Nat.le_refl _) H33.out) (fun _ _ _ => newb_free rfl hlK (by omega))
  obtain ⟨R, hR⟩ : ∃ R, R = aSeal freeA K (i : Int) X := ⟨_, rfl⟩
  rw [← hR] at hcl
  obtain ⟨b, Z, e0⟩ := R
  have HEb := Lib.hid hR
  clear hR
  dsimp only [SeR] at hcl
  go_wp2_with (first
    | (with_reducible refine wpList_load_tag rfl _ rfl rfl H37.out (tag_size hlK) ?_)
    | (with_reducible refine wpList_build_free rfl _ rfl true rfl ?_))
  refine hcl.mono ?_
  rintro e u6 ⟨⟨x, v, rfl, hx, hv⟩, hbu⟩
  clear hcl
  obtain ⟨AvZ, cvZ, rfl, -⟩ := id hv
  obtain ⟨Amb, cmb, Abb, cbb, rfl, hM, hBx, hA⟩ := hx
  have hsu6 : u5.heap.size ≤ u6.heap.size := hbu.size
  have hlast : ∀ y ∈ ([(u2.heap.size + 1), u2.heap.size, W0.heap.size] : List Nat), y < u5.heap.size := by intro y hy; simp at hy; have := (Whole.lt H38.out); omega
  have H40 : Hid (Below w.heap.size w u6) := Lib.hid ((Below.trans H33.out (Below.mono hbu (Below.size H33.out))))
  have H41 : Hid (Bytes u6 (Off [(u2.heap.size + 1), u2.heap.size, W0.heap.size]) (.slice A1 X.length c1) X) := Lib.hid ((Bytes.below H34.out hbu (Nat.le_refl _)))
  have H42 : Hid (Bytes u6 (Off [(u2.heap.size + 1), u2.heap.size, W0.heap.size]) (.slice A2 Y.length c2) Y) := Lib.hid ((Bytes.below H35.out hbu (Nat.le_refl _)))
  have H43 : Hid (TGRow u6 u2.heap.size K) := Lib.hid ((Whole.below H37.out hbu (Whole.lt H37.out)))
  have H44 : Hid (TGRow u6 (u2.heap.size + 1) L) := Lib.hid ((Whole.below H38.out hbu (Whole.lt H38.out)))
  have H45 : Hid (AlV u6 (Off [(u2.heap.size + 1), u2.heap.size, W0.heap.size]) (.agg (alc true ztag 0 (.slice none 0 0) (.slice none 0 0))) freeA) := Lib.hid ((AlV.below H39.out hbu (Nat.le_refl _)))
  clear H33 H34 H35 H37 H38 H39
  have H46 : Hid (AlV u6 (Off [(u2.heap.size + 1), u2.heap.size, W0.heap.size]) (.agg (alc b.free b.seed b.fresh (.slice Amb b.macs.length cmb) (.slice Abb b.boxes.length cbb))) b) := Lib.hid (AlV.fresh ⟨Amb, cmb, Abb, cbb, rfl, hM, hBx, hA⟩ hlast)
  have H47 : Hid (Bytes u6 (Off [(u2.heap.size + 1), u2.heap.size, W0.heap.size]) (.slice AvZ Z.length cvZ) Z) := Lib.hid (Bytes.fresh hv hlast)
  clear hM hBx hA hbu hlast hv
  clear H45
  clear hlf
  have hnb : b.boxes.length ≤ 1 := by have := seal_le freeA K (i : Int) X; rw [← HEb.out] at this; exact this
  have hfb : b.free = true := by
    have h1 := HEb.out
    rw [seal_first (by omega) (by omega)] at h1
    injection h1 with h1 _
    rw [h1]
  have HFB := Lib.hid hfb
  clear hfb
  have ks0 : ∀ z0 : Array Value, Whole (u6.alloc (.cells z0 28)) u6.heap.size 28 z0 := fun _ => (Whole.here _ _ _)
  go_upto_region 6 with (with_reducible refine wpList_store_alg rfl _ _ rfl (g := u6.heap.size) rfl rfl (ks0 _) rfl (alc_size _ _ _ _ _) (alc_one _ _ _ _ _ _ _ _ _) ?_)
  clear ks0
  rw [zar_lit]
  obtain ⟨q7, hq⟩ : ∃ q, q = ((u6.alloc (.cells zar 28)).setRow u6.heap.size (alc b.free b.seed b.fresh (.slice Amb b.macs.length cmb) (.slice Abb b.boxes.length cbb))) := ⟨_, rfl⟩
  rw [← hq]
  have hsq7 : u6.heap.size + 1 ≤ q7.heap.size := by rw [hq]; simp
  have H48 : Hid (Below w.heap.size w q7) := Lib.hid (by rw [hq]; exact (below_setRow (Below.trans H40.out (Below.mono (Below.alloc (Below.refl _ _) (Nat.le_refl _) _) (Below.size H40.out))) (by omega) _))
  have H49 : Hid (Bytes q7 (Off [u6.heap.size, (u2.heap.size + 1), u2.heap.size, W0.heap.size]) (.slice A1 X.length c1) X) := Lib.hid (by rw [hq]; exact (Bytes.store (Bytes.below (Bytes.grow H41.out (by omega)) (Below.alloc (Below.refl _ _) (Nat.le_refl _) _) (Nat.le_refl _)) (by simp) _))
  have H50 : Hid (Bytes q7 (Off [u6.heap.size, (u2.heap.size + 1), u2.heap.size, W0.heap.size]) (.slice A2 Y.length c2) Y) := Lib.hid (by rw [hq]; exact (Bytes.store (Bytes.below (Bytes.grow H42.out (by omega)) (Below.alloc (Below.refl _ _) (Nat.le_refl _) _) (Nat.le_refl _)) (by simp) _))
  have H51 : Hid (TGRow q7 u2.heap.size K) := Lib.hid (by rw [hq]; exact (Whole.setRow_far (Whole.below H43.out (Below.alloc (Below.refl _ _) (Nat.le_refl _) _) (Whole.lt H43.out)) (by omega) _))
  have H52 : Hid (TGRow q7 (u2.heap.size + 1) L) := Lib.hid (by rw [hq]; exact (Whole.setRow_far (Whole.below H44.out (Below.alloc (Below.refl _ _) (Nat.le_refl _) _) (Whole.lt H44.out)) (by omega) _))
  have H53 : Hid (AlV q7 (Off [u6.heap.size, (u2.heap.size + 1), u2.heap.size, W0.heap.size]) (.agg (alc b.free b.seed b.fresh (.slice Amb b.macs.length cmb) (.slice Abb b.boxes.length cbb))) b) := Lib.hid (by rw [hq]; exact (AlV.store (AlV.below (AlV.grow H46.out (by omega)) (Below.alloc (Below.refl _ _) (Nat.le_refl _) _) (Nat.le_refl _)) (by simp) _))
  have H54 : Hid (Bytes q7 (Off [u6.heap.size, (u2.heap.size + 1), u2.heap.size, W0.heap.size]) (.slice AvZ Z.length cvZ) Z) := Lib.hid (by rw [hq]; exact (Bytes.store (Bytes.below (Bytes.grow H47.out (by omega)) (Below.alloc (Below.refl _ _) (Nat.le_refl _) _) (Nat.le_refl _)) (by simp) _))
  clear H40 H41 H42 H43 H44 H46 H47
  have H55 : Hid (ALRow q7 u6.heap.size b.free b.seed b.fresh (.slice Amb b.macs.length cmb) (.slice Abb b.boxes.length cbb)) := Lib.hid (by rw [hq]; exact (Whole.setRow (Whole.here _ _ _) _))
  clear hq
  have hcl := pseal (z := (j : Int)) (m := Y) H53.out (by omega) hlL (show i64q (j : Int) from ⟨by omega, by omega⟩) H50.out (by omega) (Tables.below HT.out (Nat.le_refl _) H48.out) (fun _ _ _ => newb_free HFB.out hlL (by omega))
  obtain ⟨R, hR⟩ : ∃ R, R = aSeal b L (j : Int) Y := ⟨_, rfl⟩
  rw [← hR] at hcl
  obtain ⟨c, Y2, e1⟩ := R
  have HEc := Lib.hid hR
  clear hR
  dsimp only [SeR] at hcl
  go_wp2_with (first
    | (with_reducible refine wpList_load_alg rfl _ rfl rfl H55.out (alc_size _ _ _ _ _) ?_)
    | (with_reducible refine wpList_load_tag rfl _ rfl rfl H52.out (tag_size hlL) ?_))
  refine hcl.mono ?_
  rintro e u8 ⟨⟨x, v, rfl, hx, hv⟩, hbu⟩
  clear hcl
  obtain ⟨AvY2, cvY2, rfl, -⟩ := id hv
  obtain ⟨Amc, cmc, Abc, cbc, rfl, hM, hBx, hA⟩ := hx
  have hsu8 : q7.heap.size ≤ u8.heap.size := hbu.size
  have hlast : ∀ y ∈ ([u6.heap.size, (u2.heap.size + 1), u2.heap.size, W0.heap.size] : List Nat), y < q7.heap.size := by intro y hy; simp at hy; have := (Whole.lt H55.out); omega
  have H56 : Hid (Below w.heap.size w u8) := Lib.hid ((Below.trans H48.out (Below.mono hbu (Below.size H48.out))))
  have H57 : Hid (Bytes u8 (Off [u6.heap.size, (u2.heap.size + 1), u2.heap.size, W0.heap.size]) (.slice A1 X.length c1) X) := Lib.hid ((Bytes.below H49.out hbu (Nat.le_refl _)))
  have H58 : Hid (Bytes u8 (Off [u6.heap.size, (u2.heap.size + 1), u2.heap.size, W0.heap.size]) (.slice A2 Y.length c2) Y) := Lib.hid ((Bytes.below H50.out hbu (Nat.le_refl _)))
  have H59 : Hid (TGRow u8 u2.heap.size K) := Lib.hid ((Whole.below H51.out hbu (Whole.lt H51.out)))
  have H60 : Hid (TGRow u8 (u2.heap.size + 1) L) := Lib.hid ((Whole.below H52.out hbu (Whole.lt H52.out)))
  have H61 : Hid (AlV u8 (Off [u6.heap.size, (u2.heap.size + 1), u2.heap.size, W0.heap.size]) (.agg (alc b.free b.seed b.fresh (.slice Amb b.macs.length cmb) (.slice Abb b.boxes.length cbb))) b) := Lib.hid ((AlV.below H53.out hbu (Nat.le_refl _)))
  have H62 : Hid (Bytes u8 (Off [u6.heap.size, (u2.heap.size + 1), u2.heap.size, W0.heap.size]) (.slice AvZ Z.length cvZ) Z) := Lib.hid ((Bytes.below H54.out hbu (Nat.le_refl _)))
  have H63 : Hid (ALRow u8 u6.heap.size b.free b.seed b.fresh (.slice Amb b.macs.length cmb) (.slice Abb b.boxes.length cbb)) := Lib.hid ((Whole.below H55.out hbu (Whole.lt H55.out)))
  clear H48 H49 H50 H51 H52 H53 H54 H55
  have H64 : Hid (AlV u8 (Off [u6.heap.size, (u2.heap.size + 1), u2.heap.size, W0.heap.size]) (.agg (alc c.free c.seed c.fresh (.slice Amc c.macs.length cmc) (.slice Abc c.boxes.length cbc))) c) := Lib.hid (AlV.fresh ⟨Amc, cmc, Abc, cbc, rfl, hM, hBx, hA⟩ hlast)
  have H65 : Hid (Bytes u8 (Off [u6.heap.size, (u2.heap.size + 1), u2.heap.size, W0.heap.size]) (.slice AvY2 Y2.length cvY2) Y2) := Lib.hid (Bytes.fresh hv hlast)
  clear hM hBx hA hbu hlast hv
  clear H61
  have hnc : c.boxes.length ≤ 2 := by have := seal_le b L (j : Int) Y; rw [← HEc.out] at this; simp only at this; omega
  have hfc : c.free = true := by
    have h1 := HEb.out
    rw [seal_first (by omega) (by omega)] at h1
    injection h1 with h1 _
    have h2 := HEc.out
    unfold aSeal at h2
    rw [if_neg (by omega), if_neg (by omega)] at h2
    split at h2
    · injection h2 with h2 _; rw [h2]; exact HFB.out
    rw [if_neg (by omega)] at h2
    injection h2 with h2 _; rw [h2]; exact HFB.out
  have HFC := Lib.hid hfc
  clear hfc
  have ks0 : Whole u8 u6.heap.size 28 (alc b.free b.seed b.fresh (.slice Amb b.macs.length cmb) (.slice Abb b.boxes.length cbb)) := H63.out
  go_upto_region 7 with (with_reducible refine wpList_store_alg rfl _ _ rfl (g := u6.heap.size) rfl rfl (ks0) (alc_size _ _ _ _ _) (alc_size _ _ _ _ _) (alc_one _ _ _ _ _ _ _ _ _) ?_)
  clear ks0
  obtain ⟨q9, hq⟩ : ∃ q, q = (u8.setRow u6.heap.size (alc c.free c.seed c.fresh (.slice Amc c.macs.length cmc) (.slice Abc c.boxes.length cbc))) := ⟨_, rfl⟩
  rw [← hq]
  have hsq9 : u8.heap.size ≤ q9.heap.size := by rw [hq]; simp
  have H66 : Hid (Below w.heap.size w q9) := Lib.hid (by rw [hq]; exact (below_setRow H56.out (by omega) _))
  have H67 : Hid (Bytes q9 (Off [u6.heap.size, (u2.heap.size + 1), u2.heap.size, W0.heap.size]) (.slice A1 X.length c1) X) := Lib.hid (by rw [hq]; exact (Bytes.store H57.out (by simp) _))
  have H68 : Hid (Bytes q9 (Off [u6.heap.size, (u2.heap.size + 1), u2.heap.size, W0.heap.size]) (.slice A2 Y.length c2) Y) := Lib.hid (by rw [hq]; exact (Bytes.store H58.out (by simp) _))
  have H69 : Hid (TGRow q9 u2.heap.size K) := Lib.hid (by rw [hq]; exact (Whole.setRow_far H59.out (by omega) _))
  have H70 : Hid (TGRow q9 (u2.heap.size + 1) L) := Lib.hid (by rw [hq]; exact (Whole.setRow_far H60.out (by omega) _))
  have H71 : Hid (Bytes q9 (Off [u6.heap.size, (u2.heap.size + 1), u2.heap.size, W0.heap.size]) (.slice AvZ Z.length cvZ) Z) := Lib.hid (by rw [hq]; exact (Bytes.store H62.out (by simp) _))
  have H72 : Hid (ALRow q9 u6.heap.size c.free c.seed c.fresh (.slice Amc c.macs.length cmc) (.slice Abc c.boxes.length cbc)) := Lib.hid (by rw [hq]; exact (Whole.setRow H63.out _))
  have H73 : Hid (AlV q9 (Off [u6.heap.size, (u2.heap.size + 1), u2.heap.size, W0.heap.size]) (.agg (alc c.free c.seed c.fresh (.slice Amc c.macs.length cmc) (.slice Abc c.boxes.length cbc))) c) := Lib.hid (by rw [hq]; exact (AlV.store H64.out (by simp) _))
  have H74 : Hid (Bytes q9 (Off [u6.heap.size, (u2.heap.size + 1), u2.heap.size, W0.heap.size]) (.slice AvY2 Y2.length cvY2) Y2) := Lib.hid (by rw [hq]; exact (Bytes.store H65.out (by simp) _))
  clear H56 H57 H58 H59 H60 H62 H63 H64 H65
  clear hq
  have hcl := popen (m := Z) H73.out hlL H71.out (Tables.below HT.out (Nat.le_refl _) H66.out) (fun h => by rw [HFC.out] at h; cases h)
  obtain ⟨R, hR⟩ : ∃ R, R = aOpen c L Z := ⟨_, rfl⟩
  rw [← hR] at hcl
  obtain ⟨U, g2⟩ := R
  have HEU := Lib.hid hR
  clear hR
  dsimp only [OpR] at hcl
  go_wp2_with (first
    | (with_reducible refine wpList_load_alg rfl _ rfl rfl H72.out (alc_size _ _ _ _ _) ?_)
    | (with_reducible refine wpList_load_tag rfl _ rfl rfl H70.out (tag_size hlL) ?_))
  refine hcl.mono ?_
  rintro e u10 ⟨⟨v, rfl, hv⟩, hbu⟩
  clear hcl
  obtain ⟨AvU, cvU, rfl, -⟩ := id hv
  have hsu10 : q9.heap.size ≤ u10.heap.size := hbu.size
  have hlast : ∀ y ∈ ([u6.heap.size, (u2.heap.size + 1), u2.heap.size, W0.heap.size] : List Nat), y < q9.heap.size := by intro y hy; simp at hy; have := (Whole.lt H72.out); omega
  have H75 : Hid (Below w.heap.size w u10) := Lib.hid ((Below.trans H66.out (Below.mono hbu (Below.size H66.out))))
  have H76 : Hid (Bytes u10 (Off [u6.heap.size, (u2.heap.size + 1), u2.heap.size, W0.heap.size]) (.slice A1 X.length c1) X) := Lib.hid ((Bytes.below H67.out hbu (Nat.le_refl _)))
  have H77 : Hid (Bytes u10 (Off [u6.heap.size, (u2.heap.size + 1), u2.heap.size, W0.heap.size]) (.slice A2 Y.length c2) Y) := Lib.hid ((Bytes.below H68.out hbu (Nat.le_refl _)))
  have H78 : Hid (TGRow u10 u2.heap.size K) := Lib.hid ((Whole.below H69.out hbu (Whole.lt H69.out)))
  have H79 : Hid (TGRow u10 (u2.heap.size + 1) L) := Lib.hid ((Whole.below H70.out hbu (Whole.lt H70.out)))
  have H80 : Hid (Bytes u10 (Off [u6.heap.size, (u2.heap.size + 1), u2.heap.size, W0.heap.size]) (.slice AvZ Z.length cvZ) Z) := Lib.hid ((Bytes.below H71.out hbu (Nat.le_refl _)))
  have H81 : Hid (ALRow u10 u6.heap.size c.free c.seed c.fresh (.slice Amc c.macs.length cmc) (.slice Abc c.boxes.length cbc)) := Lib.hid ((Whole.below H72.out hbu (Whole.lt H72.out)))
  have H82 : Hid (AlV u10 (Off [u6.heap.size, (u2.heap.size + 1), u2.heap.size, W0.heap.size]) (.agg (alc c.free c.seed c.fresh (.slice Amc c.macs.length cmc) (.slice Abc c.boxes.length cbc))) c) := Lib.hid ((AlV.below H73.out hbu (Nat.le_refl _)))
  have H83 : Hid (Bytes u10 (Off [u6.heap.size, (u2.heap.size + 1), u2.heap.size, W0.heap.size]) (.slice AvY2 Y2.length cvY2) Y2) := Lib.hid ((Bytes.below H74.out hbu (Nat.le_refl _)))
  clear H66 H67 H68 H69 H70 H71 H72 H73 H74
  have H84 : Hid (Bytes u10 (Off [u6.heap.size, (u2.heap.size + 1), u2.heap.size, W0.heap.size]) (.slice AvU U.length cvU) U) := Lib.hid (Bytes.fresh hv hlast)
  clear hbu hlast hv
  go_upto_region 8 with fail
  obtain ⟨rfl, rfl, hZY, hKL1, hKL2⟩ := boxfree_all (i := (i : Int)) (j := (j : Int)) ⟨by omega, by omega⟩ ⟨by omega, by omega⟩ hqX hqY HEb.out HEc.out HEU.out
  have HZY := Lib.hid hZY
  have HKL := Lib.hid (And.intro hKL1 hKL2)
  clear hZY hKL1 hKL2
  have hlZ : Z.length ≤ 1000 := by have h1 := HEb.out; rw [seal_first (by omega) (by omega)] at h1; injection h1 with _ h1; injection h1 with h1 _; rw [h1, List.length_append, sym_length, List.length_replicate]; omega
  have hlY2 : Y2.length ≤ 1000 := by
    have h2 := HEc.out
    unfold aSeal at h2
    rw [if_neg (by omega), if_neg (by omega)] at h2
    split at h2
    · rename_i t ht
      injection h2 with _ h2; injection h2 with h2 _; rw [h2]
      have h1 := HEb.out
      rw [seal_first (by omega) (by omega)] at h1
      injection h1 with h1 _
      obtain ⟨e, he, -, -, -, rfl⟩ := fndb_mem ht
      rw [h1] at he
      rw [List.mem_singleton.1 he]
      show (sym 98#8 1 ++ List.replicate (X.length + 8) 0).length ≤ 1000
      rw [List.length_append, sym_length, List.length_replicate]; omega
    rw [if_neg (by omega)] at h2
    injection h2 with _ h2; injection h2 with h2 _; rw [h2, boxb_length]; omega
  by_cases hKL : K = L
  · skip
    have hUU := HKL.out.1 hKL
    obtain ⟨rfl, hU⟩ := hUU
    subst hKL
    have hqe := fun W => eql_tag hlK hlK (decide_eq_true rfl) W
    have HU := Lib.hid hU
    clear hU
    by_cases hij : i = j
    · skip
      subst hij
      obtain ⟨D, hD⟩ : ∃ D, decide (X = Y) = D := ⟨_, rfl⟩
      have hcl := same_ _ _ X Y _ _ u10 H76.out H77.out (by omega) (by omega)
      rw [hD] at hcl
      go_wp2_with (first
        | (with_reducible refine wpList_load_tag rfl _ rfl rfl H78.out (tag_size hlK) ?_)
        | (with_reducible refine wpList_load_tag rfl _ rfl rfl H79.out (tag_size hlK) ?_))
      refine hcl.mono ?_
      rintro e u11 ⟨rfl, hbu⟩
      clear hcl
      have hsu11 : u10.heap.size ≤ u11.heap.size := hbu.size
      have H85 : Hid (Below w.heap.size w u11) := Lib.hid ((Below.trans H75.out (Below.mono hbu (Below.size H75.out))))
      have H86 : Hid (Bytes u11 (Off [u6.heap.size, (u2.heap.size + 1), u2.heap.size, W0.heap.size]) (.slice A1 X.length c1) X) := Lib.hid ((Bytes.below H76.out hbu (Nat.le_refl _)))
      have H87 : Hid (Bytes u11 (Off [u6.heap.size, (u2.heap.size + 1), u2.heap.size, W0.heap.size]) (.slice A2 Y.length c2) Y) := Lib.hid ((Bytes.below H77.out hbu (Nat.le_refl _)))
      have H88 : Hid (TGRow u11 u2.heap.size K) := Lib.hid ((Whole.below H78.out hbu (Whole.lt H78.out)))
      have H89 : Hid (TGRow u11 (u2.heap.size + 1) K) := Lib.hid ((Whole.below H79.out hbu (Whole.lt H79.out)))
      have H90 : Hid (Bytes u11 (Off [u6.heap.size, (u2.heap.size + 1), u2.heap.size, W0.heap.size]) (.slice AvZ Z.length cvZ) Z) := Lib.hid ((Bytes.below H80.out hbu (Nat.le_refl _)))
      have H91 : Hid (ALRow u11 u6.heap.size c.free c.seed c.fresh (.slice Amc c.macs.length cmc) (.slice Abc c.boxes.length cbc)) := Lib.hid ((Whole.below H81.out hbu (Whole.lt H81.out)))
      have H92 : Hid (AlV u11 (Off [u6.heap.size, (u2.heap.size + 1), u2.heap.size, W0.heap.size]) (.agg (alc c.free c.seed c.fresh (.slice Amc c.macs.length cmc) (.slice Abc c.boxes.length cbc))) c) := Lib.hid ((AlV.below H82.out hbu (Nat.le_refl _)))
      have H93 : Hid (Bytes u11 (Off [u6.heap.size, (u2.heap.size + 1), u2.heap.size, W0.heap.size]) (.slice AvY2 Y2.length cvY2) Y2) := Lib.hid ((Bytes.below H83.out hbu (Nat.le_refl _)))
      have H94 : Hid (Bytes u11 (Off [u6.heap.size, (u2.heap.size + 1), u2.heap.size, W0.heap.size]) (.slice AvU U.length cvU) U) := Lib.hid ((Bytes.below H84.out hbu (Nat.le_refl _)))
      clear H75 H76 H77 H78 H79 H80 H81 H82 H83 H84
      clear hbu
      go_upto_region 9 with fail
      have hZD : decide (Z = Y2) = D := by rw [HZY.out, ← hD]; simp
      cases D
      · skip
        have hcl := same_ _ _ Z Y2 _ _ u11 H90.out H93.out (by omega) (by omega)
        rw [show decide (Z = Y2) = false from hZD] at hcl
        go_wp2_with fail
        refine hcl.mono ?_
        rintro e u12 ⟨rfl, hbu⟩
        clear hcl
        have hsu12 : u11.heap.size ≤ u12.heap.size := hbu.size
        have H95 : Hid (Below w.heap.size w u12) := Lib.hid ((Below.trans H85.out (Below.mono hbu (Below.size H85.out))))
        have H96 : Hid (Bytes u12 (Off [u6.heap.size, (u2.heap.size + 1), u2.heap.size, W0.heap.size]) (.slice A1 X.length c1) X) := Lib.hid ((Bytes.below H86.out hbu (Nat.le_refl _)))
        have H97 : Hid (Bytes u12 (Off [u6.heap.size, (u2.heap.size + 1), u2.heap.size, W0.heap.size]) (.slice A2 Y.length c2) Y) := Lib.hid ((Bytes.below H87.out hbu (Nat.le_refl _)))
        have H98 : Hid (TGRow u12 u2.heap.size K) := Lib.hid ((Whole.below H88.out hbu (Whole.lt H88.out)))
        have H99 : Hid (TGRow u12 (u2.heap.size + 1) K) := Lib.hid ((Whole.below H89.out hbu (Whole.lt H89.out)))
        have H100 : Hid (Bytes u12 (Off [u6.heap.size, (u2.heap.size + 1), u2.heap.size, W0.heap.size]) (.slice AvZ Z.length cvZ) Z) := Lib.hid ((Bytes.below H90.out hbu (Nat.le_refl _)))
        have H101 : Hid (ALRow u12 u6.heap.size c.free c.seed c.fresh (.slice Amc c.macs.length cmc) (.slice Abc c.boxes.length cbc)) := Lib.hid ((Whole.below H91.out hbu (Whole.lt H91.out)))
        have H102 : Hid (AlV u12 (Off [u6.heap.size, (u2.heap.size + 1), u2.heap.size, W0.heap.size]) (.agg (alc c.free c.seed c.fresh (.slice Amc c.macs.length cmc) (.slice Abc c.boxes.length cbc))) c) := Lib.hid ((AlV.below H92.out hbu (Nat.le_refl _)))
        have H103 : Hid (Bytes u12 (Off [u6.heap.size, (u2.heap.size + 1), u2.heap.size, W0.heap.size]) (.slice AvY2 Y2.length cvY2) Y2) := Lib.hid ((Bytes.below H93.out hbu (Nat.le_refl _)))
        have H104 : Hid (Bytes u12 (Off [u6.heap.size, (u2.heap.size + 1), u2.heap.size, W0.heap.size]) (.slice AvU U.length cvU) U) := Lib.hid ((Bytes.below H94.out hbu (Nat.le_refl _)))
        clear H85 H86 H87 H88 H89 H90 H91 H92 H93 H94
        clear hbu
        have hcl := same_ _ _ U X _ _ u12 H104.out H96.out (by rw [HU.out]; omega) (by omega)
        rw [decide_eq_true HU.out] at hcl
        go_wp2_with (first
          | (with_reducible refine wpList_load_wanted_at (by with_unfolding_all rfl) 23 _ rfl u2.heap.size 0 rfl _ _ (TGRow.range H98.out) Tryd.underlying23 rfl (tag_sz hlK) ?_)
          | (with_reducible refine wpList_load_wanted_at (by with_unfolding_all rfl) 23 _ rfl (u2.heap.size + 1) 0 rfl _ _ (TGRow.range H99.out) Tryd.underlying23 rfl (tag_sz hlK) ?_))
        refine hcl.mono ?_
        rintro e u13 ⟨rfl, hbu⟩
        clear hcl hqe
        have hsu13 : u12.heap.size ≤ u13.heap.size := hbu.size
        have H105 : Hid (Below w.heap.size w u13) := Lib.hid ((Below.trans H95.out (Below.mono hbu (Below.size H95.out))))
        have H106 : Hid (Bytes u13 (Off [u6.heap.size, (u2.heap.size + 1), u2.heap.size, W0.heap.size]) (.slice A1 X.length c1) X) := Lib.hid ((Bytes.below H96.out hbu (Nat.le_refl _)))
        have H107 : Hid (Bytes u13 (Off [u6.heap.size, (u2.heap.size + 1), u2.heap.size, W0.heap.size]) (.slice A2 Y.length c2) Y) := Lib.hid ((Bytes.below H97.out hbu (Nat.le_refl _)))
        have H108 : Hid (TGRow u13 u2.heap.size K) := Lib.hid ((Whole.below H98.out hbu (Whole.lt H98.out)))
        have H109 : Hid (TGRow u13 (u2.heap.size + 1) K) := Lib.hid ((Whole.below H99.out hbu (Whole.lt H99.out)))
        have H110 : Hid (Bytes u13 (Off [u6.heap.size, (u2.heap.size + 1), u2.heap.size, W0.heap.size]) (.slice AvZ Z.length cvZ) Z) := Lib.hid ((Bytes.below H100.out hbu (Nat.le_refl _)))
        have H111 : Hid (ALRow u13 u6.heap.size c.free c.seed c.fresh (.slice Amc c.macs.length cmc) (.slice Abc c.boxes.length cbc)) := Lib.hid ((Whole.below H101.out hbu (Whole.lt H101.out)))
        have H112 : Hid (AlV u13 (Off [u6.heap.size, (u2.heap.size + 1), u2.heap.size, W0.heap.size]) (.agg (alc c.free c.seed c.fresh (.slice Amc c.macs.length cmc) (.slice Abc c.boxes.length cbc))) c) := Lib.hid ((AlV.below H102.out hbu (Nat.le_refl _)))
        have H113 : Hid (Bytes u13 (Off [u6.heap.size, (u2.heap.size + 1), u2.heap.size, W0.heap.size]) (.slice AvY2 Y2.length cvY2) Y2) := Lib.hid ((Bytes.below H103.out hbu (Nat.le_refl _)))
        have H114 : Hid (Bytes u13 (Off [u6.heap.size, (u2.heap.size + 1), u2.heap.size, W0.heap.size]) (.slice AvU U.length cvU) U) := Lib.hid ((Bytes.below H104.out hbu (Nat.le_refl _)))
        clear H95 H96 H97 H98 H99 H100 H101 H102 H103 H104
        clear hbu
        have hcl := bawk u13 (Tables.below HT.out (Nat.le_refl _) H105.out)
        go_wp2_with fail
        refine hcl.mono ?_
        rintro e w9 ⟨rfl, hb9⟩
        clear hcl
        have HG := Lib.hid (Below.trans H105.out (Below.mono hb9 (Below.size H105.out)))
        go_wp2
        go_ret
        exact ⟨rfl, HG.out⟩
      · skip
        have hcl := same_ _ _ Z Y2 _ _ u11 H90.out H93.out (by omega) (by omega)
        rw [show decide (Z = Y2) = true from hZD] at hcl
        go_wp2_with fail
        refine hcl.mono ?_
        rintro e u14 ⟨rfl, hbu⟩
        clear hcl
        have hsu14 : u11.heap.size ≤ u14.heap.size := hbu.size
        have H115 : Hid (Below w.heap.size w u14) := Lib.hid ((Below.trans H85.out (Below.mono hbu (Below.size H85.out))))
        have H116 : Hid (Bytes u14 (Off [u6.heap.size, (u2.heap.size + 1), u2.heap.size, W0.heap.size]) (.slice A1 X.length c1) X) := Lib.hid ((Bytes.below H86.out hbu (Nat.le_refl _)))
        have H117 : Hid (Bytes u14 (Off [u6.heap.size, (u2.heap.size + 1), u2.heap.size, W0.heap.size]) (.slice A2 Y.length c2) Y) := Lib.hid ((Bytes.below H87.out hbu (Nat.le_refl _)))
        have H118 : Hid (TGRow u14 u2.heap.size K) := Lib.hid ((Whole.below H88.out hbu (Whole.lt H88.out)))
        have H119 : Hid (TGRow u14 (u2.heap.size + 1) K) := Lib.hid ((Whole.below H89.out hbu (Whole.lt H89.out)))
        have H120 : Hid (Bytes u14 (Off [u6.heap.size, (u2.heap.size + 1), u2.heap.size, W0.heap.size]) (.slice AvZ Z.length cvZ) Z) := Lib.hid ((Bytes.below H90.out hbu (Nat.le_refl _)))
        have H121 : Hid (ALRow u14 u6.heap.size c.free c.seed c.fresh (.slice Amc c.macs.length cmc) (.slice Abc c.boxes.length cbc)) := Lib.hid ((Whole.below H91.out hbu (Whole.lt H91.out)))
        have H122 : Hid (AlV u14 (Off [u6.heap.size, (u2.heap.size + 1), u2.heap.size, W0.heap.size]) (.agg (alc c.free c.seed c.fresh (.slice Amc c.macs.length cmc) (.slice Abc c.boxes.length cbc))) c) := Lib.hid ((AlV.below H92.out hbu (Nat.le_refl _)))
        have H123 : Hid (Bytes u14 (Off [u6.heap.size, (u2.heap.size + 1), u2.heap.size, W0.heap.size]) (.slice AvY2 Y2.length cvY2) Y2) := Lib.hid ((Bytes.below H93.out hbu (Nat.le_refl _)))
        have H124 : Hid (Bytes u14 (Off [u6.heap.size, (u2.heap.size + 1), u2.heap.size, W0.heap.size]) (.slice AvU U.length cvU) U) := Lib.hid ((Bytes.below H94.out hbu (Nat.le_refl _)))
        clear H85 H86 H87 H88 H89 H90 H91 H92 H93 H94
        clear hbu
        have hcl := same_ _ _ U X _ _ u14 H124.out H116.out (by rw [HU.out]; omega) (by omega)
        rw [decide_eq_true HU.out] at hcl
        go_wp2_with (first
          | (with_reducible refine wpList_load_wanted_at (by with_unfolding_all rfl) 23 _ rfl u2.heap.size 0 rfl _ _ (TGRow.range H118.out) Tryd.underlying23 rfl (tag_sz hlK) ?_)
          | (with_reducible refine wpList_load_wanted_at (by with_unfolding_all rfl) 23 _ rfl (u2.heap.size + 1) 0 rfl _ _ (TGRow.range H119.out) Tryd.underlying23 rfl (tag_sz hlK) ?_))
        refine hcl.mono ?_
        rintro e u15 ⟨rfl, hbu⟩
        clear hcl hqe
        have hsu15 : u14.heap.size ≤ u15.heap.size := hbu.size
        have H125 : Hid (Below w.heap.size w u15) := Lib.hid ((Below.trans H115.out (Below.mono hbu (Below.size H115.out))))
        have H126 : Hid (Bytes u15 (Off [u6.heap.size, (u2.heap.size + 1), u2.heap.size, W0.heap.size]) (.slice A1 X.length c1) X) := Lib.hid ((Bytes.below H116.out hbu (Nat.le_refl _)))
        have H127 : Hid (Bytes u15 (Off [u6.heap.size, (u2.heap.size + 1), u2.heap.size, W0.heap.size]) (.slice A2 Y.length c2) Y) := Lib.hid ((Bytes.below H117.out hbu (Nat.le_refl _)))
        have H128 : Hid (TGRow u15 u2.heap.size K) := Lib.hid ((Whole.below H118.out hbu (Whole.lt H118.out)))
        have H129 : Hid (TGRow u15 (u2.heap.size + 1) K) := Lib.hid ((Whole.below H119.out hbu (Whole.lt H119.out)))
        have H130 : Hid (Bytes u15 (Off [u6.heap.size, (u2.heap.size + 1), u2.heap.size, W0.heap.size]) (.slice AvZ Z.length cvZ) Z) := Lib.hid ((Bytes.below H120.out hbu (Nat.le_refl _)))
        have H131 : Hid (ALRow u15 u6.heap.size c.free c.seed c.fresh (.slice Amc c.macs.length cmc) (.slice Abc c.boxes.length cbc)) := Lib.hid ((Whole.below H121.out hbu (Whole.lt H121.out)))
        have H132 : Hid (AlV u15 (Off [u6.heap.size, (u2.heap.size + 1), u2.heap.size, W0.heap.size]) (.agg (alc c.free c.seed c.fresh (.slice Amc c.macs.length cmc) (.slice Abc c.boxes.length cbc))) c) := Lib.hid ((AlV.below H122.out hbu (Nat.le_refl _)))
        have H133 : Hid (Bytes u15 (Off [u6.heap.size, (u2.heap.size + 1), u2.heap.size, W0.heap.size]) (.slice AvY2 Y2.length cvY2) Y2) := Lib.hid ((Bytes.below H123.out hbu (Nat.le_refl _)))
        have H134 : Hid (Bytes u15 (Off [u6.heap.size, (u2.heap.size + 1), u2.heap.size, W0.heap.size]) (.slice AvU U.length cvU) U) := Lib.hid ((Bytes.below H124.out hbu (Nat.le_refl _)))
        clear H115 H116 H117 H118 H119 H120 H121 H122 H123 H124
        clear hbu
        have hcl := bawk u15 (Tables.below HT.out (Nat.le_refl _) H125.out)
        go_wp2_with fail
        refine hcl.mono ?_
        rintro e w9 ⟨rfl, hb9⟩
        clear hcl
        have HG := Lib.hid (Below.trans H125.out (Below.mono hb9 (Below.size H125.out)))
        go_wp2
        go_ret
        exact ⟨rfl, HG.out⟩
    · skip
      have hzi : ((i : Int) == (j : Int)) = false := by simp; omega
      have hZD : decide (Z = Y2) = false := by rw [HZY.out]; exact decide_eq_false fun h => hij (by have := h.2.1; omega)
      clear hij
      go_upto_region 9 with (first
        | (with_reducible refine wpList_load_tag rfl _ rfl rfl H78.out (tag_size hlK) ?_)
        | (with_reducible refine wpList_load_tag rfl _ rfl rfl H79.out (tag_size hlK) ?_))
      clear hzi
      have hcl := same_ _ _ Z Y2 _ _ u10 H80.out H83.out (by omega) (by omega)
      rw [show decide (Z = Y2) = false from hZD] at hcl
      go_wp2_with fail
      refine hcl.mono ?_
      rintro e u16 ⟨rfl, hbu⟩
      clear hcl
      have hsu16 : u10.heap.size ≤ u16.heap.size := hbu.size
      have H135 : Hid (Below w.heap.size w u16) := Lib.hid ((Below.trans H75.out (Below.mono hbu (Below.size H75.out))))
      have H136 : Hid (Bytes u16 (Off [u6.heap.size, (u2.heap.size + 1), u2.heap.size, W0.heap.size]) (.slice A1 X.length c1) X) := Lib.hid ((Bytes.below H76.out hbu (Nat.le_refl _)))
      have H137 : Hid (Bytes u16 (Off [u6.heap.size, (u2.heap.size + 1), u2.heap.size, W0.heap.size]) (.slice A2 Y.length c2) Y) := Lib.hid ((Bytes.below H77.out hbu (Nat.le_refl _)))
      have H138 : Hid (TGRow u16 u2.heap.size K) := Lib.hid ((Whole.below H78.out hbu (Whole.lt H78.out)))
      have H139 : Hid (TGRow u16 (u2.heap.size + 1) K) := Lib.hid ((Whole.below H79.out hbu (Whole.lt H79.out)))
      have H140 : Hid (Bytes u16 (Off [u6.heap.size, (u2.heap.size + 1), u2.heap.size, W0.heap.size]) (.slice AvZ Z.length cvZ) Z) := Lib.hid ((Bytes.below H80.out hbu (Nat.le_refl _)))
      have H141 : Hid (ALRow u16 u6.heap.size c.free c.seed c.fresh (.slice Amc c.macs.length cmc) (.slice Abc c.boxes.length cbc)) := Lib.hid ((Whole.below H81.out hbu (Whole.lt H81.out)))
      have H142 : Hid (AlV u16 (Off [u6.heap.size, (u2.heap.size + 1), u2.heap.size, W0.heap.size]) (.agg (alc c.free c.seed c.fresh (.slice Amc c.macs.length cmc) (.slice Abc c.boxes.length cbc))) c) := Lib.hid ((AlV.below H82.out hbu (Nat.le_refl _)))
      have H143 : Hid (Bytes u16 (Off [u6.heap.size, (u2.heap.size + 1), u2.heap.size, W0.heap.size]) (.slice AvY2 Y2.length cvY2) Y2) := Lib.hid ((Bytes.below H83.out hbu (Nat.le_refl _)))
      have H144 : Hid (Bytes u16 (Off [u6.heap.size, (u2.heap.size + 1), u2.heap.size, W0.heap.size]) (.slice AvU U.length cvU) U) := Lib.hid ((Bytes.below H84.out hbu (Nat.le_refl _)))
      clear H75 H76 H77 H78 H79 H80 H81 H82 H83 H84
      clear hbu
      have hcl := same_ _ _ U X _ _ u16 H144.out H136.out (by rw [HU.out]; omega) (by omega)
      rw [decide_eq_true HU.out] at hcl
      go_wp2_with (first
        | (with_reducible refine wpList_load_wanted_at (by with_unfolding_all rfl) 23 _ rfl u2.heap.size 0 rfl _ _ (TGRow.range H138.out) Tryd.underlying23 rfl (tag_sz hlK) ?_)
        | (with_reducible refine wpList_load_wanted_at (by with_unfolding_all rfl) 23 _ rfl (u2.heap.size + 1) 0 rfl _ _ (TGRow.range H139.out) Tryd.underlying23 rfl (tag_sz hlK) ?_))
      refine hcl.mono ?_
      rintro e u17 ⟨rfl, hbu⟩
      clear hcl hqe
      have hsu17 : u16.heap.size ≤ u17.heap.size := hbu.size
      have H145 : Hid (Below w.heap.size w u17) := Lib.hid ((Below.trans H135.out (Below.mono hbu (Below.size H135.out))))
      have H146 : Hid (Bytes u17 (Off [u6.heap.size, (u2.heap.size + 1), u2.heap.size, W0.heap.size]) (.slice A1 X.length c1) X) := Lib.hid ((Bytes.below H136.out hbu (Nat.le_refl _)))
      have H147 : Hid (Bytes u17 (Off [u6.heap.size, (u2.heap.size + 1), u2.heap.size, W0.heap.size]) (.slice A2 Y.length c2) Y) := Lib.hid ((Bytes.below H137.out hbu (Nat.le_refl _)))
      have H148 : Hid (TGRow u17 u2.heap.size K) := Lib.hid ((Whole.below H138.out hbu (Whole.lt H138.out)))
      have H149 : Hid (TGRow u17 (u2.heap.size + 1) K) := Lib.hid ((Whole.below H139.out hbu (Whole.lt H139.out)))
      have H150 : Hid (Bytes u17 (Off [u6.heap.size, (u2.heap.size + 1), u2.heap.size, W0.heap.size]) (.slice AvZ Z.length cvZ) Z) := Lib.hid ((Bytes.below H140.out hbu (Nat.le_refl _)))
      have H151 : Hid (ALRow u17 u6.heap.size c.free c.seed c.fresh (.slice Amc c.macs.length cmc) (.slice Abc c.boxes.length cbc)) := Lib.hid ((Whole.below H141.out hbu (Whole.lt H141.out)))
      have H152 : Hid (AlV u17 (Off [u6.heap.size, (u2.heap.size + 1), u2.heap.size, W0.heap.size]) (.agg (alc c.free c.seed c.fresh (.slice Amc c.macs.length cmc) (.slice Abc c.boxes.length cbc))) c) := Lib.hid ((AlV.below H142.out hbu (Nat.le_refl _)))
      have H153 : Hid (Bytes u17 (Off [u6.heap.size, (u2.heap.size + 1), u2.heap.size, W0.heap.size]) (.slice AvY2 Y2.length cvY2) Y2) := Lib.hid ((Bytes.below H143.out hbu (Nat.le_refl _)))
      have H154 : Hid (Bytes u17 (Off [u6.heap.size, (u2.heap.size + 1), u2.heap.size, W0.heap.size]) (.slice AvU U.length cvU) U) := Lib.hid ((Bytes.below H144.out hbu (Nat.le_refl _)))
      clear H135 H136 H137 H138 H139 H140 H141 H142 H143 H144
      clear hbu
      have hcl := bawk u17 (Tables.below HT.out (Nat.le_refl _) H145.out)
      go_wp2_with fail
      refine hcl.mono ?_
      rintro e w9 ⟨rfl, hb9⟩
      clear hcl
      have HG := Lib.hid (Below.trans H145.out (Below.mono hb9 (Below.size H145.out)))
      go_wp2
      go_ret
      exact ⟨rfl, HG.out⟩
  · skip
    have hg2 := HKL.out.2 hKL
    subst hg2
    have hqe := fun W => eql_tag hlK hlL (decide_eq_false hKL) W
    have hZD : decide (Z = Y2) = false := by rw [HZY.out]; exact decide_eq_false fun h => hKL h.1
    clear hKL
    go_upto_region 9 with (first
      | (with_reducible refine wpList_load_tag rfl _ rfl rfl H78.out (tag_size hlK) ?_)
      | (with_reducible refine wpList_load_tag rfl _ rfl rfl H79.out (tag_size hlL) ?_))
    have hcl := same_ _ _ Z Y2 _ _ u10 H80.out H83.out (by omega) (by omega)
    rw [hZD] at hcl
    go_wp2_with fail
    refine hcl.mono ?_
    rintro e u18 ⟨rfl, hbu⟩
    clear hcl
    have hsu18 : u10.heap.size ≤ u18.heap.size := hbu.size
    have H155 : Hid (Below w.heap.size w u18) := Lib.hid ((Below.trans H75.out (Below.mono hbu (Below.size H75.out))))
    have H156 : Hid (Bytes u18 (Off [u6.heap.size, (u2.heap.size + 1), u2.heap.size, W0.heap.size]) (.slice A1 X.length c1) X) := Lib.hid ((Bytes.below H76.out hbu (Nat.le_refl _)))
    have H157 : Hid (Bytes u18 (Off [u6.heap.size, (u2.heap.size + 1), u2.heap.size, W0.heap.size]) (.slice A2 Y.length c2) Y) := Lib.hid ((Bytes.below H77.out hbu (Nat.le_refl _)))
    have H158 : Hid (TGRow u18 u2.heap.size K) := Lib.hid ((Whole.below H78.out hbu (Whole.lt H78.out)))
    have H159 : Hid (TGRow u18 (u2.heap.size + 1) L) := Lib.hid ((Whole.below H79.out hbu (Whole.lt H79.out)))
    have H160 : Hid (Bytes u18 (Off [u6.heap.size, (u2.heap.size + 1), u2.heap.size, W0.heap.size]) (.slice AvZ Z.length cvZ) Z) := Lib.hid ((Bytes.below H80.out hbu (Nat.le_refl _)))
    have H161 : Hid (ALRow u18 u6.heap.size c.free c.seed c.fresh (.slice Amc c.macs.length cmc) (.slice Abc c.boxes.length cbc)) := Lib.hid ((Whole.below H81.out hbu (Whole.lt H81.out)))
    have H162 : Hid (AlV u18 (Off [u6.heap.size, (u2.heap.size + 1), u2.heap.size, W0.heap.size]) (.agg (alc c.free c.seed c.fresh (.slice Amc c.macs.length cmc) (.slice Abc c.boxes.length cbc))) c) := Lib.hid ((AlV.below H82.out hbu (Nat.le_refl _)))
    have H163 : Hid (Bytes u18 (Off [u6.heap.size, (u2.heap.size + 1), u2.heap.size, W0.heap.size]) (.slice AvY2 Y2.length cvY2) Y2) := Lib.hid ((Bytes.below H83.out hbu (Nat.le_refl _)))
    have H164 : Hid (Bytes u18 (Off [u6.heap.size, (u2.heap.size + 1), u2.heap.size, W0.heap.size]) (.slice AvU U.length cvU) U) := Lib.hid ((Bytes.below H84.out hbu (Nat.le_refl _)))
    clear H75 H76 H77 H78 H79 H80 H81 H82 H83 H84
    clear hbu
    have hcl := bawk u18 (Tables.below HT.out (Nat.le_refl _) H155.out)
    go_wp2_with (first
      | (with_reducible refine wpList_load_wanted_at (by with_unfolding_all rfl) 23 _ rfl u2.heap.size 0 rfl _ _ (TGRow.range H158.out) Tryd.underlying23 rfl (tag_sz hlK) ?_)
      | (with_reducible refine wpList_load_wanted_at (by with_unfolding_all rfl) 23 _ rfl (u2.heap.size + 1) 0 rfl _ _ (TGRow.range H159.out) Tryd.underlying23 rfl (tag_sz hlL) ?_))
    refine hcl.mono ?_
    rintro e w9 ⟨rfl, hb9⟩
    clear hcl hqe
    have HG := Lib.hid (Below.trans H155.out (Below.mono hb9 (Below.size H155.out)))
    go_wp2
    go_ret
    exact ⟨rfl, HG.out⟩
end Go.Proofs.YteglmfimgdgchaaDoor
