/-
  BxROpn
-/
import Derived.Deep.CutBlock
import Derived.Deep.RegionHeld3
import Derived.Deep.DeepCutAuto
import Derived.Test.YteekdhcffiaaaaaDoorPk23
import Derived.Test.YteekdhcffiaaaaaDoorPk11
namespace Go.Proofs.YteekdhcffiaaaaaDoor
open Go Go.RowKit Sh Leaf

def ChQ (p : World) (T : List B8) (v : Value) (W : World) : Prop := ∃ G, v = .pointer (some ⟨G, 0, none⟩) ∧ TGRow W G T ∧ Below p.heap.size p W
theorem sbytes_boxo : sbytes { data := #[98, 111, 120] } = boxw := by with_unfolding_all rfl
theorem rstream_beval {w : World} {Q : Nat → Prop} {A : Option Addr} {k d : Nat} {K N M : List B8} (hK : K.length = 32) (hN : N.length = 8) (hM : M.length = k) (hv : Bytes w Q (.slice A k d) M) (hl : k ≤ 5000) :
    Calls Tryd.prog 34 #[.agg (K.map byt).toArray, .int .u64 ((beval N : Nat) : Int), .slice A k d] w fun x w' => (∃ v, x = .returned v ∧ Bytes w' (fun g => w.heap.size ≤ g) v (strm K (beval N) M)) ∧ Below w.heap.size w w' := by
  have hn := beval_lt N (by omega)
  generalize beval N = n at hn ⊢
  subst hM
  refine (rstream n (by omega) hK hv hl).mono ?_
  rintro x w' ⟨v, h1, h2, h3⟩
  exact ⟨⟨v, h1, Bytes.of_own h2⟩, h3⟩
theorem beval_lt7 (l : List B8) (h : l.length ≤ 7) : beval l < 2 ^ 56 := by
  match l, h with
  | [], _ => simp [beval]
  | [a], _ => have := a.isLt; simp [beval]; omega
  | [a, b], _ => have := a.isLt; have := b.isLt; simp [beval]; omega
  | [a, b, c], _ => have := a.isLt; have := b.isLt; have := c.isLt; simp [beval]; omega
  | [a, b, c, d], _ => have := a.isLt; have := b.isLt; have := c.isLt; have := d.isLt; simp [beval]; omega
  | [a, b, c, d, e], _ => have := a.isLt; have := b.isLt; have := c.isLt; have := d.isLt; have := e.isLt; simp [beval]; omega
  | [a, b, c, d, e, f], _ => have := a.isLt; have := b.isLt; have := c.isLt; have := d.isLt; have := e.isLt; have := f.isLt; simp [beval]; omega
  | [a, b, c, d, e, f, g], _ => have := a.isLt; have := b.isLt; have := c.isLt; have := d.isLt; have := e.isLt; have := f.isLt; have := g.isLt; simp [beval]; omega
theorem open_at {w : World} {g o : Nat} {X : BxM} (h : w.rangeAt g o (bcl X)) (i : Nat) (v : Value) (hv : ([.int .i64 X.e.nonce, .slice X.A X.e.plain.length X.c, .slice X.A2 X.e.box.length X.c2] : List Value)[i]? = some v) : w.cell? ⟨g, o + (32 + i), none⟩ = some v := by
  refine h (32 + i) _ ?_
  unfold bcl
  rw [List.getElem?_append_right (by rw [p32_cells]; omega), p32_cells, show 32 + i - 32 = i by omega]
  exact hv
set_option linter.unusedSimpArgs false in
set_option linter.unusedVariables false in
set_option maxRecDepth 100000 in
set_option maxHeartbeats 8000000 in
theorem ropen {w : World} {Q Q2 : Nat → Prop} {x : Value} {B : Option Addr} {d : Nat} {a : Alg} {K m : List B8} (hx : AlV w Q x a) (hlen : a.boxes.length < 1000) (hK : K.length = 32) (hm : Bytes w Q2 (.slice B m.length d) m) (hml : m.length ≤ 100000) :
    Calls Tryd.prog 39 #[x, .agg (K.map byt).toArray, .slice B m.length d] w fun e w' => OpR w' (fun g => w.heap.size ≤ g) e (aOpen a K m) ∧ Below w.heap.size w w' := by
  obtain ⟨Am, cm, Ab, cb, rfl, hM, hBx, hA⟩ := hx
  obtain ⟨nb, hnb⟩ : ∃ n, n = a.boxes.length := ⟨_, rfl⟩
  rw [← hnb] at hlen ⊢
  obtain ⟨p, hp⟩ : ∃ p, p = (w.alloc (.cells (alc a.free a.seed a.fresh (.slice Am a.macs.length cm) (.slice Ab nb cb)) 32)).alloc (.cells (K.map byt).toArray 28) := ⟨_, rfl⟩
  have hr : ALRow p w.heap.size a.free a.seed a.fresh (.slice Am a.macs.length cm) (.slice Ab nb cb) := by rw [hp]; exact (Whole.here _ _ _).alloc _
  have hk : TGRow p (w.heap.size + 1) K := by rw [hp]; exact Whole.at_ _ _ _ _ (by simp)
  have hb : Below w.heap.size w p := by rw [hp]; exact ((Below.refl _ _).alloc (Nat.le_refl _) _).alloc (by simp) _
  have hps : w.heap.size + 1 < p.heap.size := hk.lt
  have hbx := hBx.below hb (Nat.le_refl _)
  have hmp := hm.below hb (Nat.le_refl _)
  obtain ⟨c0, c33, c34, c35⟩ := ALRow.cells hr
  obtain ⟨f, hf⟩ : ∃ f, f = a.free := ⟨_, rfl⟩
  obtain ⟨R, hR⟩ : ∃ R, R = aOpen a K m := ⟨_, rfl⟩
  rw [← hR]
  rw [← hf] at c0
  have HR := Lib.hid hr
  have HK := Lib.hid hk
  have HB := Lib.hid hb
  have HBX := Lib.hid hbx
  have HMM := Lib.hid hmp
  have HNB := Lib.hid hnb
  clear hr hk hb hbx hM hBx hA hm hnb c33 c34
  cases f
  case true =>
    clear hmp
    have hRR : R = ((fndo a.boxes K m).getD [], if (fndo a.boxes K m).isSome = true then 0 else 14) := by rw [hR]; exact aOpen_free hf.symm
    obtain ⟨f0, hf0⟩ : ∃ f0, f0 = fndo a.boxes K m := ⟨_, rfl⟩
    rw [← hf0] at hRR
    have HRR := Lib.hid hRR
    have HF0 := Lib.hid hf0
    clear hR hRR hf0 hf c35
    go_enter Tryd.func39, Tryd.ntmps39
    go_upto_region 1 with fail
    rw [← hp]
    clear hp
    go_wp2_with fail
    clear c0
    go_loopw [8] (fun v wr => ∃ j : Nat, v = .int .i64 j ∧ j ≤ nb ∧ fndo (a.boxes.drop j) K m = f0 ∧ Below p.heap.size p wr) (fun v _ => nb - (intOf v).toNat)
    case atStart => exact ⟨0, rfl, by omega, by rw [List.drop_zero]; exact HF0.out.symm, Below.refl _ _⟩
    case round =>
      obtain ⟨j, rfl, hj, hf, hbw⟩ := hrel
      have hpw : p.heap.size ≤ wr.heap.size := hbw.size
      have HF := Lib.hid hf
      have HBW := Lib.hid hbw
      have c35 := (ALRow.cells (Whole.below HR.out hbw (by omega))).2.2.2
      clear hf hbw
      by_cases hlt : j < nb
      case neg =>
        obtain rfl : j = nb := by omega
        have HX : Hid (R = ([], 14)) := Lib.hid (by have := HF.out; rw [HNB.out, fndo_end] at this; rw [HRR.out, ← this]; rfl)
        have HG : Hid (Below w.heap.size w wr) := Lib.hid (HB.out.trans (HBW.out.mono (by omega)))
        go_wp2_with fail
        go_ret2
        rw [HX.out]
        exact ⟨⟨_, rfl, Bytes.nil _ _⟩, HG.out⟩
      obtain ⟨e, he⟩ : ∃ e, a.boxes[j]? = some e := ⟨_, List.getElem?_eq_getElem (by have := HNB.out; omega)⟩
      obtain ⟨g, o, D, dc, D1, dc1, rfl, hq, hg, hrow, hkey, hby, hbx, hk32, hnc, hp5, hb5⟩ := Bxs.get (HBX.out.below HBW.out (Nat.le_refl _)) j e he
      have HS := Lib.hid (fndo_drop he K m)
      have HBY := Lib.hid hby
      have HBO := Lib.hid hbx
      have HT := Lib.hid (And.intro hk32 (And.intro hp5 hb5))
      have h33 : wr.cell? ⟨g, o + j * 35 + 33, none⟩ = some (.slice D e.plain.length dc) := open_at hrow 1 _ rfl
      have h34 : wr.cell? ⟨g, o + j * 35 + 34, none⟩ = some (.slice D1 e.box.length dc1) := open_at hrow 2 _ rfl
      have hcc : ∀ W, Below wr.heap.size wr W → W.cell? ⟨w.heap.size, 35, none⟩ = some (.slice (some ⟨g, o, none⟩) nb cb) ∧ W.rangeAt (w.heap.size + 1) 0 (K.map byt) ∧ W.rangeAt g (o + j * 35) (e.key.map byt) ∧ W.cell? ⟨g, o + j * 35 + 34, none⟩ = some (.slice D1 e.box.length dc1) ∧ W.cell? ⟨g, o + j * 35 + 33, none⟩ = some (.slice D e.plain.length dc) := fun W hb => by
        have h1 := ALRow.cells (Whole.below HR.out (HBW.out.trans (hb.mono HBW.out.size)) (by omega))
        have h2 := TGRow.range (Whole.below HK.out (HBW.out.trans (hb.mono HBW.out.size)) (by omega))
        exact ⟨h1.2.2.2, h2, fun i v hv => (hb.cell (p := ⟨g, o + j * 35 + i, none⟩) hg).trans (hkey i v hv), (hb.cell (p := ⟨g, o + j * 35 + 34, none⟩) hg).trans h34, (hb.cell (p := ⟨g, o + j * 35 + 33, none⟩) hg).trans h33⟩
      have HCC := Lib.hid hcc
      have hkl : (e.key.map byt).length = 32 := by rw [List.length_map, hk32]
      have hKl : (K.map byt).length = 32 := by rw [List.length_map, hK]
      have j0 : (0 : Int) ≤ (j : Int) := by omega
      have jn : (j : Int) < (nb : Int) := by omega
      have hqq := fun W => run_eql_tag hk32 hK W
      clear he hrow hkey h33 h34 hby hbx hcc hq hp5 hb5 hnc
      go_upto_region 5 with fail
      clear c35
      by_cases hke : e.key = K
      · skip
        rw [decide_eq_true hke] at hqq
        have HE := Lib.hid hke
        clear hke
        refine wp_region_held_drew (S := fun W => W.cell? ⟨w.heap.size, 35, none⟩ = some (.slice (some ⟨g, o, none⟩) nb cb) ∧ W.rangeAt (w.heap.size + 1) 0 (K.map byt) ∧ W.rangeAt g (o + j * 35) (e.key.map byt) ∧ W.cell? ⟨g, o + j * 35 + 34, none⟩ = some (.slice D1 e.box.length dc1) ∧ W.cell? ⟨g, o + j * 35 + 33, none⟩ = some (.slice D e.plain.length dc)) (by kernel_rfl) (HCC.out _ (Below.drew (Below.refl _ _))) (fun hHeld => ?_)
        apply wpAnyH_take (i := 0) rfl (by kernel_rfl) (by kernel_rfl) (by kernel_rfl)
        case hQ => exact fun _ _ _ h => h
        case hS => exact hHeld
        case hy => (refine Or.inl ⟨by rfl, ?_⟩; intro w hSw; (try go_split_ands); go_simp; (try with_reducible rfl))
        (try simp only [List.getElem_toArray, List.getElem_cons_zero, Act.put, List.setIfInBounds_toArray, List.set_cons_zero, List.set_cons_succ])
        apply wpAnyH_take (i := 1) rfl (by kernel_rfl) (by kernel_rfl) (by kernel_rfl)
        case hQ => exact fun _ _ _ h => h
        case hS => exact hHeld
        case hy => (refine Or.inl ⟨by rfl, ?_⟩; intro w hSw; (try go_split_ands); go_simp; (try with_reducible rfl))
        (try simp only [List.getElem_toArray, List.getElem_cons_succ, List.getElem_cons_zero, Act.put, List.setIfInBounds_toArray, List.set_cons_zero, List.set_cons_succ])
        apply wpAnyH_take (i := 2) rfl (by kernel_rfl) (by kernel_rfl) (by kernel_rfl)
        case hQ => exact fun _ _ _ h => h
        case hS => exact hHeld
        case hy => (refine Or.inl ⟨by rfl, ?_⟩; intro w hSw; (try go_split_ands); go_simp; (try with_reducible rfl))
        (try simp only [List.getElem_toArray, List.getElem_cons_succ, List.getElem_cons_zero, Act.put, List.setIfInBounds_toArray, List.set_cons_zero, List.set_cons_succ])
        apply wpAnyH_take (i := 3) rfl (by kernel_rfl) (by kernel_rfl) (by kernel_rfl)
        case hQ => exact fun _ _ _ h => h
        case hS => exact hHeld
        case hy => (refine Or.inl ⟨by rfl, ?_⟩; intro w hSw; (try go_split_ands); go_simp; (try with_reducible rfl))
        (try simp only [List.getElem_toArray, List.getElem_cons_succ, List.getElem_cons_zero, Act.put, List.setIfInBounds_toArray, List.set_cons_zero, List.set_cons_succ])
        apply wpAnyH_take (i := 4) rfl (by kernel_rfl) (by kernel_rfl) (by kernel_rfl)
        case hQ => exact fun _ _ _ h => h
        case hS => exact hHeld
        case hy => (refine Or.inl ⟨by rfl, ?_⟩; intro w hSw; (try go_split_ands); go_simp; (try with_reducible rfl))
        (try simp only [List.getElem_toArray, List.getElem_cons_succ, List.getElem_cons_zero, Act.put, List.setIfInBounds_toArray, List.set_cons_zero, List.set_cons_succ])
        apply wpAnyH_take (i := 5) rfl (by kernel_rfl) (by kernel_rfl) (by kernel_rfl)
        case hQ => exact fun _ _ _ h => h
        case hS => exact hHeld
        case hy => exact yieldsIf_load_mid (by rfl) 28 _ rfl g ((o + j * 35)) rfl (e.key.map byt) _ (fun w hS => hS.2.2.1) Tryd.underlying28 rfl (by rw [tagSize, hkl])
        (try simp only [List.getElem_toArray, List.getElem_cons_succ, List.getElem_cons_zero, Act.put, List.setIfInBounds_toArray, List.set_cons_zero, List.set_cons_succ])
        apply wpAnyH_take (i := 6) rfl (by kernel_rfl) (by kernel_rfl) (by kernel_rfl)
        case hQ => exact fun _ _ _ h => h
        case hS => exact hHeld
        case hy => exact yieldsIf_load_mid (by rfl) 28 _ rfl (w.heap.size + 1) (0) rfl (K.map byt) _ (fun w hS => hS.2.1) Tryd.underlying28 rfl (by rw [tagSize, hKl])
        (try simp only [List.getElem_toArray, List.getElem_cons_succ, List.getElem_cons_zero, Act.put, List.setIfInBounds_toArray, List.set_cons_zero, List.set_cons_succ])
        apply wpAnyH_take (i := 7) rfl (by kernel_rfl) (by kernel_rfl) (by kernel_rfl)
        case hQ => exact fun _ _ _ h => h
        case hS => exact hHeld
        case hy => (refine Or.inl ⟨by rfl, ?_⟩; intro w hSw; (try go_split_ands); go_simp; (try with_reducible rfl))
        (try simp only [List.getElem_toArray, List.getElem_cons_succ, List.getElem_cons_zero, Act.put, List.setIfInBounds_toArray, List.set_cons_zero, List.set_cons_succ])
        apply wpAnyH_take (i := 8) rfl (by kernel_rfl) (by kernel_rfl) (by kernel_rfl)
        case hQ => exact fun _ _ _ h => h
        case hS => exact hHeld
        case hy => (refine Or.inl ⟨by rfl, ?_⟩; intro w hSw; (try go_split_ands); go_simp; (try with_reducible rfl))
        (try simp only [List.getElem_toArray, List.getElem_cons_succ, List.getElem_cons_zero, Act.put, List.setIfInBounds_toArray, List.set_cons_zero, List.set_cons_succ])
        apply wpAnyH_take (i := 9) rfl (by kernel_rfl) (by kernel_rfl) (by kernel_rfl)
        case hQ => exact fun _ _ _ h => h
        case hS => exact hHeld
        case hy => (refine Or.inl ⟨by rfl, ?_⟩; intro w hSw; (try go_split_ands); go_simp; (try with_reducible rfl))
        (try simp only [List.getElem_toArray, List.getElem_cons_succ, List.getElem_cons_zero, Act.put, List.setIfInBounds_toArray, List.set_cons_zero, List.set_cons_succ])
        apply wpAnyH_take (i := 10) rfl (by kernel_rfl) (by kernel_rfl) (by kernel_rfl)
        case hQ => exact fun _ _ _ h => h
        case hS => exact hHeld
        case hy => (refine Or.inl ⟨by rfl, ?_⟩; intro w hSw; (try go_split_ands); go_simp; (try with_reducible rfl))
        (try simp only [List.getElem_toArray, List.getElem_cons_succ, List.getElem_cons_zero, Act.put, List.setIfInBounds_toArray, List.set_cons_zero, List.set_cons_succ])
        apply wpAnyH_take (i := 11) rfl (by kernel_rfl) (by kernel_rfl) (by kernel_rfl)
        case hQ => exact fun _ _ _ h => h
        case hS => exact hHeld
        case hy => (refine Or.inl ⟨by rfl, ?_⟩; intro w hSw; (try go_split_ands); go_simp; (try with_reducible rfl))
        (try simp only [List.getElem_toArray, List.getElem_cons_succ, List.getElem_cons_zero, Act.put, List.setIfInBounds_toArray, List.set_cons_zero, List.set_cons_succ])
        apply wpAnyH_take (i := 12) rfl (by kernel_rfl) (by kernel_rfl) (by kernel_rfl)
        case hQ => exact fun _ _ _ h => h
        case hS => exact hHeld
        case hy => (refine Or.inl ⟨by rfl, ?_⟩; intro w hSw; (try go_split_ands); go_simp; (try with_reducible rfl))
        (try simp only [List.getElem_toArray, List.getElem_cons_succ, List.getElem_cons_zero, Act.put, List.setIfInBounds_toArray, List.set_cons_zero, List.set_cons_succ])
        apply wpAnyH_take (i := 13) rfl (by kernel_rfl) (by kernel_rfl) (by kernel_rfl)
        case hQ => exact fun _ _ _ h => h
        case hS => exact hHeld
        case hy => (refine Or.inl ⟨by rfl, ?_⟩; intro w hSw; (try go_split_ands); go_simp; (try with_reducible rfl))
        (try simp only [List.getElem_toArray, List.getElem_cons_succ, List.getElem_cons_zero, Act.put, List.setIfInBounds_toArray, List.set_cons_zero, List.set_cons_succ])
        apply wpAnyH_take (i := 14) rfl (by kernel_rfl) (by kernel_rfl) (by kernel_rfl)
        case hQ => exact fun _ _ _ h => h
        case hS => exact hHeld
        case hy => (refine Or.inl ⟨by rfl, ?_⟩; intro w hSw; (try go_split_ands); go_simp; (try with_reducible rfl))
        (try simp only [List.getElem_toArray, List.getElem_cons_succ, List.getElem_cons_zero, Act.put, List.setIfInBounds_toArray, List.set_cons_zero, List.set_cons_succ])
        apply wpAnyH_take (i := 15) rfl (by kernel_rfl) (by kernel_rfl) (by kernel_rfl)
        case hQ => exact fun _ _ _ h => h
        case hS => exact hHeld
        case hy => (refine Or.inl ⟨by rfl, ?_⟩; intro w hSw; (try go_split_ands); go_simp; (try with_reducible rfl))
        (try simp only [List.getElem_toArray, List.getElem_cons_succ, List.getElem_cons_zero, Act.put, List.setIfInBounds_toArray, List.set_cons_zero, List.set_cons_succ])
        refine wpAnyH_ready (rs := [16]) (by kernel_rfl) (by simp) ?_
        refine AllReadyH.cons rfl (fun KK hKK => ?_) AllReadyH.nil
        (try simp only [List.getElem_toArray, List.getElem_cons_succ, List.getElem_cons_zero])
        go_simp
        go_at_call 31
        refine (same_ _ _ e.box m _ _ wr.drew HBO.out.drew (HMM.out.below HBW.out.drew (Nat.le_refl _)) (by have := HT.out.2.2; omega) (by omega)).mono ?_
        rintro e1 w1 ⟨rfl, hw1⟩
        have hb1 : Below wr.heap.size wr w1 := ((Below.refl _ _).drew).trans hw1
        refine hKK.out _ _ (HCC.out _ hb1) (fun hHeld => ?_)
        clear hKK KK
        (try simp only [List.getElem_toArray, List.getElem_cons_succ, List.getElem_cons_zero, Act.put, List.setIfInBounds_toArray, List.set_cons_zero, List.set_cons_succ])
        apply wpAnyH_take (i := 17) rfl (by kernel_rfl) (by kernel_rfl) (by kernel_rfl)
        case hQ => exact fun _ _ _ h => h
        case hS => exact hHeld
        case hy => (refine Or.inl ⟨by rfl, ?_⟩; intro w hSw; (try go_split_ands); go_simp; (try with_reducible rfl))
        (try simp only [List.getElem_toArray, List.getElem_cons_succ, List.getElem_cons_zero, Act.put, List.setIfInBounds_toArray, List.set_cons_zero, List.set_cons_succ])
        refine wpAnyH_done (by kernel_rfl) ?_ _
        have HBW1 : Hid (Below p.heap.size p w1) := Lib.hid (HBW.out.trans (hb1.mono HBW.out.size))
        obtain ⟨h35, -, -, -, h33⟩ := HCC.out (w1.alloc (.cells #[] 5)) (hb1.alloc hb1.size _)
        have hpw1 : p.heap.size ≤ w1.heap.size := HBW1.out.size
        have HPL := Lib.hid ((HBY.out.below hb1 (Nat.le_refl _)).alloc (.cells #[] 5))
        clear hw1 hb1
        by_cases hem : e.box = m
        · have HX : Hid (R = (e.plain, 0)) := Lib.hid (by have := HS.out; rw [HF.out, if_pos ⟨HE.out, hem⟩] at this; rw [HRR.out, this]; rfl)
          rw [decide_eq_true hem]
          clear hem
          have HB2 : Hid (Below w.heap.size w w1) := Lib.hid (HB.out.trans (HBW1.out.mono (by omega)))
          have hpl : e.plain.length ≤ 5000 := HT.out.2.1
          go_wp2_with (at_builtin; go_must (refine wpList_append_bytes rfl _ _ rfl w1.heap.size (.slice (some ⟨w1.heap.size, 0, none⟩) 0 0) [] rfl (own_lit w1 w1.heap.size [] (Nat.le_refl _) (by simp)) _ _ e.plain rfl HPL.out (by simp; omega) (by simp) ?_; intro v9 w9 hown hb9; rw [List.nil_append] at hown))
          go_ret2
          rw [HX.out]
          exact ⟨⟨_, rfl, (Bytes.of_own hown).mono fun q _ hq => by omega⟩, HB2.out.trans ((((Below.refl _ _).alloc (Nat.le_refl _) _).trans hb9).mono HB2.out.size)⟩
        · rw [decide_eq_false hem]
          have HX : Hid (fndo (a.boxes.drop (j + 1)) K m = f0) := Lib.hid (by have := HS.out; rw [HF.out, if_neg (fun q => hem q.2)] at this; exact this.symm)
          go_wp2_with fail
          go_roundw
          case rel => exact ⟨j + 1, by go_num, by omega, HX.out, HBW1.out⟩
          case measure => simp [intOf]; omega
      · skip
        rw [decide_eq_false hke] at hqq
        refine wp_region_held_drew (S := fun W => W.cell? ⟨w.heap.size, 35, none⟩ = some (.slice (some ⟨g, o, none⟩) nb cb) ∧ W.rangeAt (w.heap.size + 1) 0 (K.map byt) ∧ W.rangeAt g (o + j * 35) (e.key.map byt) ∧ W.cell? ⟨g, o + j * 35 + 34, none⟩ = some (.slice D1 e.box.length dc1) ∧ W.cell? ⟨g, o + j * 35 + 33, none⟩ = some (.slice D e.plain.length dc)) (by kernel_rfl) (HCC.out _ (Below.drew (Below.refl _ _))) (fun hHeld => ?_)
        apply wpAnyH_take (i := 0) rfl (by kernel_rfl) (by kernel_rfl) (by kernel_rfl)
        case hQ => exact fun _ _ _ h => h
        case hS => exact hHeld
        case hy => (refine Or.inl ⟨by rfl, ?_⟩; intro w hSw; (try go_split_ands); go_simp; (try with_reducible rfl))
        (try simp only [List.getElem_toArray, List.getElem_cons_zero, Act.put, List.setIfInBounds_toArray, List.set_cons_zero, List.set_cons_succ])
        apply wpAnyH_take (i := 1) rfl (by kernel_rfl) (by kernel_rfl) (by kernel_rfl)
        case hQ => exact fun _ _ _ h => h
        case hS => exact hHeld
        case hy => (refine Or.inl ⟨by rfl, ?_⟩; intro w hSw; (try go_split_ands); go_simp; (try with_reducible rfl))
        (try simp only [List.getElem_toArray, List.getElem_cons_succ, List.getElem_cons_zero, Act.put, List.setIfInBounds_toArray, List.set_cons_zero, List.set_cons_succ])
        apply wpAnyH_take (i := 2) rfl (by kernel_rfl) (by kernel_rfl) (by kernel_rfl)
        case hQ => exact fun _ _ _ h => h
        case hS => exact hHeld
        case hy => (refine Or.inl ⟨by rfl, ?_⟩; intro w hSw; (try go_split_ands); go_simp; (try with_reducible rfl))
        (try simp only [List.getElem_toArray, List.getElem_cons_succ, List.getElem_cons_zero, Act.put, List.setIfInBounds_toArray, List.set_cons_zero, List.set_cons_succ])
        apply wpAnyH_take (i := 3) rfl (by kernel_rfl) (by kernel_rfl) (by kernel_rfl)
        case hQ => exact fun _ _ _ h => h
        case hS => exact hHeld
        case hy => (refine Or.inl ⟨by rfl, ?_⟩; intro w hSw; (try go_split_ands); go_simp; (try with_reducible rfl))
        (try simp only [List.getElem_toArray, List.getElem_cons_succ, List.getElem_cons_zero, Act.put, List.setIfInBounds_toArray, List.set_cons_zero, List.set_cons_succ])
        apply wpAnyH_take (i := 4) rfl (by kernel_rfl) (by kernel_rfl) (by kernel_rfl)
        case hQ => exact fun _ _ _ h => h
        case hS => exact hHeld
        case hy => (refine Or.inl ⟨by rfl, ?_⟩; intro w hSw; (try go_split_ands); go_simp; (try with_reducible rfl))
        (try simp only [List.getElem_toArray, List.getElem_cons_succ, List.getElem_cons_zero, Act.put, List.setIfInBounds_toArray, List.set_cons_zero, List.set_cons_succ])
        apply wpAnyH_take (i := 5) rfl (by kernel_rfl) (by kernel_rfl) (by kernel_rfl)
        case hQ => exact fun _ _ _ h => h
        case hS => exact hHeld
        case hy => exact yieldsIf_load_mid (by rfl) 28 _ rfl g ((o + j * 35)) rfl (e.key.map byt) _ (fun w hS => hS.2.2.1) Tryd.underlying28 rfl (by rw [tagSize, hkl])
        (try simp only [List.getElem_toArray, List.getElem_cons_succ, List.getElem_cons_zero, Act.put, List.setIfInBounds_toArray, List.set_cons_zero, List.set_cons_succ])
        apply wpAnyH_take (i := 6) rfl (by kernel_rfl) (by kernel_rfl) (by kernel_rfl)
        case hQ => exact fun _ _ _ h => h
        case hS => exact hHeld
        case hy => exact yieldsIf_load_mid (by rfl) 28 _ rfl (w.heap.size + 1) (0) rfl (K.map byt) _ (fun w hS => hS.2.1) Tryd.underlying28 rfl (by rw [tagSize, hKl])
        (try simp only [List.getElem_toArray, List.getElem_cons_succ, List.getElem_cons_zero, Act.put, List.setIfInBounds_toArray, List.set_cons_zero, List.set_cons_succ])
        apply wpAnyH_take (i := 7) rfl (by kernel_rfl) (by kernel_rfl) (by kernel_rfl)
        case hQ => exact fun _ _ _ h => h
        case hS => exact hHeld
        case hy => (refine Or.inl ⟨by rfl, ?_⟩; intro w hSw; (try go_split_ands); go_simp; (try with_reducible rfl))
        (try simp only [List.getElem_toArray, List.getElem_cons_succ, List.getElem_cons_zero, Act.put, List.setIfInBounds_toArray, List.set_cons_zero, List.set_cons_succ])
        apply wpAnyH_take (i := 8) rfl (by kernel_rfl) (by kernel_rfl) (by kernel_rfl)
        case hQ => exact fun _ _ _ h => h
        case hS => exact hHeld
        case hy => (refine Or.inl ⟨by rfl, ?_⟩; intro w hSw; (try go_split_ands); go_simp; (try with_reducible rfl))
        (try simp only [List.getElem_toArray, List.getElem_cons_succ, List.getElem_cons_zero, Act.put, List.setIfInBounds_toArray, List.set_cons_zero, List.set_cons_succ])
        apply wpAnyH_take (i := 9) rfl (by kernel_rfl) (by kernel_rfl) (by kernel_rfl)
        case hQ => exact fun _ _ _ h => h
        case hS => exact hHeld
        case hy => exact Or.inr ⟨by rfl, rfl⟩
        (try simp only [List.getElem_toArray, List.getElem_cons_succ, List.getElem_cons_zero, Act.put, List.setIfInBounds_toArray, List.set_cons_zero, List.set_cons_succ])
        apply wpAnyH_take (i := 10) rfl (by kernel_rfl) (by kernel_rfl) (by kernel_rfl)
        case hQ => exact fun _ _ _ h => h
        case hS => exact hHeld
        case hy => exact Or.inr ⟨by rfl, rfl⟩
        (try simp only [List.getElem_toArray, List.getElem_cons_succ, List.getElem_cons_zero, Act.put, List.setIfInBounds_toArray, List.set_cons_zero, List.set_cons_succ])
        apply wpAnyH_take (i := 11) rfl (by kernel_rfl) (by kernel_rfl) (by kernel_rfl)
        case hQ => exact fun _ _ _ h => h
        case hS => exact hHeld
        case hy => exact Or.inr ⟨by rfl, rfl⟩
        (try simp only [List.getElem_toArray, List.getElem_cons_succ, List.getElem_cons_zero, Act.put, List.setIfInBounds_toArray, List.set_cons_zero, List.set_cons_succ])
        apply wpAnyH_take (i := 12) rfl (by kernel_rfl) (by kernel_rfl) (by kernel_rfl)
        case hQ => exact fun _ _ _ h => h
        case hS => exact hHeld
        case hy => exact Or.inr ⟨by rfl, rfl⟩
        (try simp only [List.getElem_toArray, List.getElem_cons_succ, List.getElem_cons_zero, Act.put, List.setIfInBounds_toArray, List.set_cons_zero, List.set_cons_succ])
        apply wpAnyH_take (i := 13) rfl (by kernel_rfl) (by kernel_rfl) (by kernel_rfl)
        case hQ => exact fun _ _ _ h => h
        case hS => exact hHeld
        case hy => exact Or.inr ⟨by rfl, rfl⟩
        (try simp only [List.getElem_toArray, List.getElem_cons_succ, List.getElem_cons_zero, Act.put, List.setIfInBounds_toArray, List.set_cons_zero, List.set_cons_succ])
        apply wpAnyH_take (i := 14) rfl (by kernel_rfl) (by kernel_rfl) (by kernel_rfl)
        case hQ => exact fun _ _ _ h => h
        case hS => exact hHeld
        case hy => exact Or.inr ⟨by rfl, rfl⟩
        (try simp only [List.getElem_toArray, List.getElem_cons_succ, List.getElem_cons_zero, Act.put, List.setIfInBounds_toArray, List.set_cons_zero, List.set_cons_succ])
        apply wpAnyH_take (i := 15) rfl (by kernel_rfl) (by kernel_rfl) (by kernel_rfl)
        case hQ => exact fun _ _ _ h => h
        case hS => exact hHeld
        case hy => exact Or.inr ⟨by rfl, rfl⟩
        (try simp only [List.getElem_toArray, List.getElem_cons_succ, List.getElem_cons_zero, Act.put, List.setIfInBounds_toArray, List.set_cons_zero, List.set_cons_succ])
        apply wpAnyH_take (i := 16) rfl (by kernel_rfl) (by kernel_rfl) (by kernel_rfl)
        case hQ => exact fun _ _ _ h => h
        case hS => exact hHeld
        case hy => exact Or.inr ⟨by rfl, rfl⟩
        (try simp only [List.getElem_toArray, List.getElem_cons_succ, List.getElem_cons_zero, Act.put, List.setIfInBounds_toArray, List.set_cons_zero, List.set_cons_succ])
        apply wpAnyH_take (i := 17) rfl (by kernel_rfl) (by kernel_rfl) (by kernel_rfl)
        case hQ => exact fun _ _ _ h => h
        case hS => exact hHeld
        case hy => (refine Or.inl ⟨by rfl, ?_⟩; intro w hSw; (try go_split_ands); go_simp; (try with_reducible rfl))
        (try simp only [List.getElem_toArray, List.getElem_cons_succ, List.getElem_cons_zero, Act.put, List.setIfInBounds_toArray, List.set_cons_zero, List.set_cons_succ])
        refine wpAnyH_done (by kernel_rfl) ?_ _
        have HX : Hid (fndo (a.boxes.drop (j + 1)) K m = f0) := Lib.hid (by have := HS.out; rw [HF.out, if_neg (fun q => hke q.1)] at this; exact this.symm)
        go_wp2_with fail
        go_roundw
        case rel => exact ⟨j + 1, by go_num, by omega, HX.out, (HBW.out.drew)⟩
        case measure => simp [intOf]; omega
  case false =>
    rw [aOpen_comp hf.symm] at hR
    clear hf c35
    unfold cOpen at hR
    by_cases hlo : m.length < 40 ∨ 296 < m.length
    · skip
      rw [if_pos hlo] at hR
      subst hR
      clear hmp
      go_enter Tryd.func39, Tryd.ntmps39
      by_cases h1 : (m.length : Int) < 40
      · skip
        go_upto_region 1 with fail
        rw [← hp]
        clear hp hlo
        go_wp2_with fail
        go_ret2
        exact ⟨⟨_, rfl, Bytes.nil _ _⟩, HB.out⟩
      · skip
        have h2 : (296 : Int) < m.length := by omega
        go_upto_region 1 with fail
        rw [← hp]
        clear hp hlo
        go_wp2_with fail
        go_ret2
        exact ⟨⟨_, rfl, Bytes.nil _ _⟩, HB.out⟩
    · skip
      rw [if_neg hlo] at hR
      obtain ⟨e, he⟩ : ∃ e, m.length = e + 32 := ⟨m.length - 32, by omega⟩
      have he8 : 8 ≤ e := by omega
      have heu : e ≤ 264 := by omega
      rw [show m.length - 32 = e by omega] at hR
      have hme := hmp.take e (by omega)
      have hmd := hmp.drop e (by omega)
      rw [show m.length - e = 32 by omega] at hmd
      have hm9 := hme.drop 8 (by rw [List.length_take]; omega)
      have hcd0 : m.length ≤ d ∧ d ≤ maxLen := by
        obtain ⟨Ax, cx, hvx, h1x, h2x, -⟩ := id hmp
        cases hvx
        exact ⟨h1x, h2x⟩
      obtain ⟨hcd, hcd2⟩ := hcd0
      have hcells : ∃ g o, B = some ⟨g, o, none⟩ ∧ ∀ j, j < 8 → ∃ x, m.take (j + 1) = m.take j ++ [x] ∧ p.cell? ⟨g, o + j, none⟩ = some (byt x) := by
        obtain ⟨Ax, cx, hvx, -, -, -, h4x⟩ := id hmp
        cases hvx
        obtain ⟨g, o, hB, -, hc⟩ := h4x (by omega)
        refine ⟨g, o, hB, fun j hj => ?_⟩
        have hjm : j < m.length := by omega
        refine ⟨m[j], ?_, hc j _ (List.getElem?_eq_getElem hjm)⟩
        rw [List.take_add_one, List.getElem?_eq_getElem hjm]
        rfl
      obtain ⟨Y, hY⟩ : ∃ Y, Y = m.take e := ⟨_, rfl⟩
      obtain ⟨D, hD⟩ : ∃ D, D = m.drop e := ⟨_, rfl⟩
      obtain ⟨N, hN⟩ : ∃ N, N = m.take 8 := ⟨_, rfl⟩
      obtain ⟨M, hM⟩ : ∃ M, M = Y.drop 8 := ⟨_, rfl⟩
      have hYl : Y.length = e := by rw [hY, List.length_take]; omega
      have hDl : D.length = 32 := by rw [hD, List.length_drop]; omega
      have hNl : N.length = 8 := by rw [hN, List.length_take]; omega
      have hMl : M.length = e - 8 := by rw [hM, List.length_drop, hYl]
      rw [← hY] at hme hR hm9
      rw [← hD] at hmd hR
      rw [← hN] at hR
      rw [← hM] at hm9 hR
      have h1 : ¬ (m.length : Int) < 40 := by omega
      have h2 : ¬ (296 : Int) < m.length := by omega
      have hed : e ≤ d := by omega
      have h8d : 8 ≤ d := by omega
      have i1 : (e : Int) ≤ (e : Int) + 32 := by omega
      have i2 : (8 : Int) ≤ (d : Int) := by omega
      have i3 : (8 : Int) ≤ (e : Int) := by omega
      have i4 : IntKind.i64.wrap (e : Int) = (e : Int) := by rw [IntKind.wrap_i64]; omega
      have i5 : (e : Int) ≤ (d : Int) := by omega
      have i6 : (0 : Int) ≤ (e : Int) := by omega
      obtain ⟨T, hT0⟩ : ∃ T, T = hmac K (boxw ++ Y) := ⟨_, rfl⟩
      have hlT : T.length = 32 := by rw [hT0]; exact hmac_length _ _
      rw [← hT0] at hR
      have HTT := Lib.hid hT0
      have HN := Lib.hid hN
      have HYl := Lib.hid hYl
      have HNl := Lib.hid hNl
      have HMl := Lib.hid hMl
      have HDl := Lib.hid hDl
      have HRR := Lib.hid hR
      have HlT := Lib.hid hlT
      have HCE := Lib.hid hcells
      clear hT0 hY hD hN hM hcells
      have H1 : Hid (Below w.heap.size w p) := Lib.hid (HB.out)
      have H2 : Hid (TGRow p (w.heap.size + 1) K) := Lib.hid (HK.out)
      have H3 : Hid (Bytes p (fun _ => True) (.slice B e d) (Y)) := Lib.hid ((hme.mono (Q' := fun _ => True) fun _ _ _ => trivial))
      have H4 : Hid (Bytes p (fun _ => True) (.slice (if d = e then B else Option.map (fun x => x.add e) B) 32 (d - e)) (D)) := Lib.hid ((hmd.mono (Q' := fun _ => True) fun _ _ _ => trivial))
      have H5 : Hid (Bytes p (fun _ => True) (.slice (if d = 8 then B else Option.map (fun x => x.add 8) B) (e - 8) (d - 8)) (M)) := Lib.hid ((hm9.mono (Q' := fun _ => True) fun _ _ _ => trivial))
      have H6 : Hid (Below p.heap.size p p) := Lib.hid (Below.refl _ _)
      clear hme hmd hm9 hR hlT hMl hNl hYl hDl hmp HB HK HBX HMM HR
      go_enter Tryd.func39, Tryd.ntmps39
      go_upto_region 1 with fail
      rw [← hp]
      clear hp hlo
      go_upto_region 11 with fail
      clear c0
      have hst := fun g W => run_sliceAt_whole (P := Tryd.prog) (t := 28) (e := 5) (n := 32) Tryd.underlying28 (by kernel_rfl) g W
      (try simp only [Act.put])
      go_cut [10] (fun s10 wx => ChQ p T s10 wx)
      case first =>
        have hKT := H2.out
        have hYY := H3.out
        have hYl := HYl.out
        have hTl := HlT.out
        have c0 : Below p.heap.size p p.drew := (Below.refl _ _).drew
        refine wp_region_held_drew (S := fun _ : World => True) (by kernel_rfl) (trivial) (fun hHeld => ?_)
        generalize p.drew = X0 at c0 ⊢
        apply wpAnyH_take (i := 0) rfl (by kernel_rfl) (by kernel_rfl) (by kernel_rfl)
        case hQ => exact fun _ _ _ h => h
        case hS => exact hHeld
        case hy => (refine Or.inl ⟨by rfl, ?_⟩; intro w hSw; (try go_split_ands); go_simp; (try with_reducible rfl))
        (try simp only [List.getElem_toArray, List.getElem_cons_zero, Act.put, List.setIfInBounds_toArray, List.set_cons_zero, List.set_cons_succ])
        apply wpAnyH_take (i := 1) rfl (by kernel_rfl) (by kernel_rfl) (by kernel_rfl)
        case hQ => exact fun _ _ _ h => h
        case hS => exact hHeld
        case hy => (refine Or.inl ⟨by rfl, ?_⟩; intro w hSw; (try go_split_ands); go_simp; (try with_reducible rfl))
        (try simp only [List.getElem_toArray, List.getElem_cons_succ, List.getElem_cons_zero, Act.put, List.setIfInBounds_toArray, List.set_cons_zero, List.set_cons_succ])
        apply wpAnyH_take (i := 2) rfl (by kernel_rfl) (by kernel_rfl) (by kernel_rfl)
        case hQ => exact fun _ _ _ h => h
        case hS => exact hHeld
        case hy => (refine Or.inl ⟨by rfl, ?_⟩; intro w hSw; (try go_split_ands); go_simp; (try with_reducible rfl))
        (try simp only [List.getElem_toArray, List.getElem_cons_succ, List.getElem_cons_zero, Act.put, List.setIfInBounds_toArray, List.set_cons_zero, List.set_cons_succ])
        apply wpAnyH_take (i := 3) rfl (by kernel_rfl) (by kernel_rfl) (by kernel_rfl)
        case hQ => exact fun _ _ _ h => h
        case hS => exact hHeld
        case hy => (refine Or.inl ⟨by rfl, ?_⟩; intro w hSw; (try go_split_ands); go_simp; (try with_reducible rfl))
        (try simp only [List.getElem_toArray, List.getElem_cons_succ, List.getElem_cons_zero, Act.put, List.setIfInBounds_toArray, List.set_cons_zero, List.set_cons_succ])
        apply wpAnyH_take (i := 4) rfl (by kernel_rfl) (by kernel_rfl) (by kernel_rfl)
        case hQ => exact fun _ _ _ h => h
        case hS => exact hHeld
        case hy => (refine Or.inl ⟨by rfl, ?_⟩; intro w hSw; (try go_split_ands); go_simp; (try with_reducible rfl))
        (try simp only [List.getElem_toArray, List.getElem_cons_succ, List.getElem_cons_zero, Act.put, List.setIfInBounds_toArray, List.set_cons_zero, List.set_cons_succ])
        refine wpAnyH_ready (rs := [5, 7]) (by kernel_rfl) (by simp) ?_
        refine AllReadyH.cons rfl (fun KK hKK => ?_) (AllReadyH.cons rfl (fun KK hKK => ?_) AllReadyH.nil)
        · (try simp only [List.getElem_toArray, List.getElem_cons_succ, List.getElem_cons_zero])
          go_simp
          go_at_call 36
          refine (rword { data := #[98, 111, 120] } (by decide) _ Y _ X0 (hYY.below c0 (Nat.le_refl _)) (by omega) (by omega)).mono ?_
          rintro e X1 ⟨vM, rfl, oM0, hs1⟩
          have b1 : Below p.heap.size p X1 := c0.trans (hs1.mono c0.size)
          rw [sbytes_boxo] at oM0
          have oM1 := oM0
          refine hKK.out _ _ (trivial) (fun hHeld => ?_)
          clear hKK KK
          (try simp only [List.getElem_toArray, List.getElem_cons_succ, List.getElem_cons_zero, Act.put, List.setIfInBounds_toArray, List.set_cons_zero, List.set_cons_succ])
          refine wpAnyH_ready (rs := [6, 7]) (by kernel_rfl) (by simp) ?_
          refine AllReadyH.cons rfl (fun KK hKK => ?_) (AllReadyH.cons rfl (fun KK hKK => ?_) AllReadyH.nil)
          · (try simp only [List.getElem_toArray, List.getElem_cons_succ, List.getElem_cons_zero])
            have hby := Whole.bytes (Whole.below hKT b1 (by omega)) (by omega)
            rw [hK] at hby
            go_simp
            go_at_call 35
            refine (ref_hmac _ _ K (boxw ++ Y) _ _ X1 hby oM1.bytes (by omega) (by rw [List.length_append]; have : boxw.length = 3 := rfl; omega)).mono ?_
            rintro e X2 ⟨rfl, hs2⟩
            rw [← HTT.out]
            have b2 : Below p.heap.size p X2 := b1.trans (hs2.mono b1.size)
            refine hKK.out _ _ (trivial) (fun hHeld => ?_)
            clear hKK KK
            (try simp only [List.getElem_toArray, List.getElem_cons_succ, List.getElem_cons_zero, Act.put, List.setIfInBounds_toArray, List.set_cons_zero, List.set_cons_succ])
            refine wpAnyH_ready (rs := [7]) (by kernel_rfl) (by simp) ?_
            refine AllReadyH.cons rfl (fun KK hKK => ?_) AllReadyH.nil
            (try simp only [List.getElem_toArray, List.getElem_cons_succ, List.getElem_cons_zero])
            obtain ⟨G, hG⟩ : ∃ g, g = X2.heap.size := ⟨_, rfl⟩
            obtain ⟨X3, hX3⟩ : ∃ x, x = X2.alloc (.cells ztr 28) := ⟨_, rfl⟩
            have hs3 : Below X2.heap.size X2 X3 := by rw [hX3]; exact (Below.refl _ _).alloc (Nat.le_refl _) _
            have zz3 : Whole X3 G 28 ztr := by rw [hX3, hG]; exact Whole.here _ _ _
            have b3 : Below p.heap.size p X3 := b2.trans (hs3.mono b2.size)
            have hgl : p.heap.size ≤ G := by rw [hG]; exact b2.size
            have z3 := zz3
            go_simp
            rw [ztr_lit, ← hG, ← hX3]
            clear hX3 hG
            refine hKK.out _ _ (trivial) (fun hHeld => ?_)
            clear hKK KK
            (try simp only [List.getElem_toArray, List.getElem_cons_succ, List.getElem_cons_zero, Act.put, List.setIfInBounds_toArray, List.set_cons_zero, List.set_cons_succ])
            refine wpAnyH_ready (rs := [8]) (by kernel_rfl) (by simp) ?_
            refine AllReadyH.cons rfl (fun KK hKK => ?_) AllReadyH.nil
            (try simp only [List.getElem_toArray, List.getElem_cons_succ, List.getElem_cons_zero])
            obtain ⟨X4, hX4⟩ : ∃ x, x = X3.setRow G (T.map byt).toArray := ⟨_, rfl⟩
            have t4 : TGRow X4 G T := by rw [hX4]; exact Whole.setRow z3 _
            have b4 : Below p.heap.size p X4 := by rw [hX4]; exact below_setRow b3 hgl _
            rw [if_pos (by kernel_rfl)]
            refine wp_store_row 28 _ _ rfl G _ rfl rfl 28 _ z3 (by rw [tagSize, tag_size hTl]) (by rw [ztr_size, tag_size hTl]) (tag_one _) ?_
            rw [← hX4]
            clear hX4
            refine hKK.out _ _ (trivial) (fun hHeld => ?_)
            clear hKK KK
            (try simp only [List.getElem_toArray, List.getElem_cons_succ, List.getElem_cons_zero, Act.put, List.setIfInBounds_toArray, List.set_cons_zero, List.set_cons_succ])
            refine wpAnyH_done (by kernel_rfl) ?_ _
            clear hHeld
            go_wp2_with fail
            go_meet
            exact ⟨G, rfl, t4, b4⟩
          · (try simp only [List.getElem_toArray, List.getElem_cons_succ, List.getElem_cons_zero])
            obtain ⟨G, hG⟩ : ∃ g, g = X1.heap.size := ⟨_, rfl⟩
            obtain ⟨X2, hX2⟩ : ∃ x, x = X1.alloc (.cells ztr 28) := ⟨_, rfl⟩
            have hs2 : Below X1.heap.size X1 X2 := by rw [hX2]; exact (Below.refl _ _).alloc (Nat.le_refl _) _
            have zz2 : Whole X2 G 28 ztr := by rw [hX2, hG]; exact Whole.here _ _ _
            have b2 : Below p.heap.size p X2 := b1.trans (hs2.mono b1.size)
            have hgl : p.heap.size ≤ G := by rw [hG]; exact b1.size
            have oM2 := OwnM.below oM1 hs2 (Nat.le_refl _)
            have z2 := zz2
            go_simp
            rw [ztr_lit, ← hG, ← hX2]
            clear hX2 hG
            refine hKK.out _ _ (trivial) (fun hHeld => ?_)
            clear hKK KK
            (try simp only [List.getElem_toArray, List.getElem_cons_succ, List.getElem_cons_zero, Act.put, List.setIfInBounds_toArray, List.set_cons_zero, List.set_cons_succ])
            refine wpAnyH_ready (rs := [6]) (by kernel_rfl) (by simp) ?_
            refine AllReadyH.cons rfl (fun KK hKK => ?_) AllReadyH.nil
            (try simp only [List.getElem_toArray, List.getElem_cons_succ, List.getElem_cons_zero])
            have hby := Whole.bytes (Whole.below hKT b2 (by omega)) (by omega)
            rw [hK] at hby
            go_simp
            go_at_call 35
            refine (ref_hmac _ _ K (boxw ++ Y) _ _ X2 hby oM2.bytes (by omega) (by rw [List.length_append]; have : boxw.length = 3 := rfl; omega)).mono ?_
            rintro e X3 ⟨rfl, hs3⟩
            rw [← HTT.out]
            have b3 : Below p.heap.size p X3 := b2.trans (hs3.mono b2.size)
            have z3 : Whole X3 G 28 ztr := Whole.below z2 hs3 z2.lt
            refine hKK.out _ _ (trivial) (fun hHeld => ?_)
            clear hKK KK
            (try simp only [List.getElem_toArray, List.getElem_cons_succ, List.getElem_cons_zero, Act.put, List.setIfInBounds_toArray, List.set_cons_zero, List.set_cons_succ])
            refine wpAnyH_ready (rs := [8]) (by kernel_rfl) (by simp) ?_
            refine AllReadyH.cons rfl (fun KK hKK => ?_) AllReadyH.nil
            (try simp only [List.getElem_toArray, List.getElem_cons_succ, List.getElem_cons_zero])
            obtain ⟨X4, hX4⟩ : ∃ x, x = X3.setRow G (T.map byt).toArray := ⟨_, rfl⟩
            have t4 : TGRow X4 G T := by rw [hX4]; exact Whole.setRow z3 _
            have b4 : Below p.heap.size p X4 := by rw [hX4]; exact below_setRow b3 hgl _
            rw [if_pos (by kernel_rfl)]
            refine wp_store_row 28 _ _ rfl G _ rfl rfl 28 _ z3 (by rw [tagSize, tag_size hTl]) (by rw [ztr_size, tag_size hTl]) (tag_one _) ?_
            rw [← hX4]
            clear hX4
            refine hKK.out _ _ (trivial) (fun hHeld => ?_)
            clear hKK KK
            (try simp only [List.getElem_toArray, List.getElem_cons_succ, List.getElem_cons_zero, Act.put, List.setIfInBounds_toArray, List.set_cons_zero, List.set_cons_succ])
            refine wpAnyH_done (by kernel_rfl) ?_ _
            clear hHeld
            go_wp2_with fail
            go_meet
            exact ⟨G, rfl, t4, b4⟩
        · (try simp only [List.getElem_toArray, List.getElem_cons_succ, List.getElem_cons_zero])
          obtain ⟨G, hG⟩ : ∃ g, g = X0.heap.size := ⟨_, rfl⟩
          obtain ⟨X1, hX1⟩ : ∃ x, x = X0.alloc (.cells ztr 28) := ⟨_, rfl⟩
          have hs1 : Below X0.heap.size X0 X1 := by rw [hX1]; exact (Below.refl _ _).alloc (Nat.le_refl _) _
          have zz1 : Whole X1 G 28 ztr := by rw [hX1, hG]; exact Whole.here _ _ _
          have b1 : Below p.heap.size p X1 := c0.trans (hs1.mono c0.size)
          have hgl : p.heap.size ≤ G := by rw [hG]; exact c0.size
          have z1 := zz1
          go_simp
          rw [ztr_lit, ← hG, ← hX1]
          clear hX1 hG
          refine hKK.out _ _ (trivial) (fun hHeld => ?_)
          clear hKK KK
          (try simp only [List.getElem_toArray, List.getElem_cons_succ, List.getElem_cons_zero, Act.put, List.setIfInBounds_toArray, List.set_cons_zero, List.set_cons_succ])
          refine wpAnyH_ready (rs := [5]) (by kernel_rfl) (by simp) ?_
          refine AllReadyH.cons rfl (fun KK hKK => ?_) AllReadyH.nil
          (try simp only [List.getElem_toArray, List.getElem_cons_succ, List.getElem_cons_zero])
          go_simp
          go_at_call 36
          refine (rword { data := #[98, 111, 120] } (by decide) _ Y _ X1 (hYY.below b1 (Nat.le_refl _)) (by omega) (by omega)).mono ?_
          rintro e X2 ⟨vM, rfl, oM0, hs2⟩
          have b2 : Below p.heap.size p X2 := b1.trans (hs2.mono b1.size)
          have z2 : Whole X2 G 28 ztr := Whole.below z1 hs2 z1.lt
          rw [sbytes_boxo] at oM0
          have oM2 := oM0
          refine hKK.out _ _ (trivial) (fun hHeld => ?_)
          clear hKK KK
          (try simp only [List.getElem_toArray, List.getElem_cons_succ, List.getElem_cons_zero, Act.put, List.setIfInBounds_toArray, List.set_cons_zero, List.set_cons_succ])
          refine wpAnyH_ready (rs := [6]) (by kernel_rfl) (by simp) ?_
          refine AllReadyH.cons rfl (fun KK hKK => ?_) AllReadyH.nil
          (try simp only [List.getElem_toArray, List.getElem_cons_succ, List.getElem_cons_zero])
          have hby := Whole.bytes (Whole.below hKT b2 (by omega)) (by omega)
          rw [hK] at hby
          go_simp
          go_at_call 35
          refine (ref_hmac _ _ K (boxw ++ Y) _ _ X2 hby oM2.bytes (by omega) (by rw [List.length_append]; have : boxw.length = 3 := rfl; omega)).mono ?_
          rintro e X3 ⟨rfl, hs3⟩
          rw [← HTT.out]
          have b3 : Below p.heap.size p X3 := b2.trans (hs3.mono b2.size)
          have z3 : Whole X3 G 28 ztr := Whole.below z2 hs3 z2.lt
          refine hKK.out _ _ (trivial) (fun hHeld => ?_)
          clear hKK KK
          (try simp only [List.getElem_toArray, List.getElem_cons_succ, List.getElem_cons_zero, Act.put, List.setIfInBounds_toArray, List.set_cons_zero, List.set_cons_succ])
          refine wpAnyH_ready (rs := [8]) (by kernel_rfl) (by simp) ?_
          refine AllReadyH.cons rfl (fun KK hKK => ?_) AllReadyH.nil
          (try simp only [List.getElem_toArray, List.getElem_cons_succ, List.getElem_cons_zero])
          obtain ⟨X4, hX4⟩ : ∃ x, x = X3.setRow G (T.map byt).toArray := ⟨_, rfl⟩
          have t4 : TGRow X4 G T := by rw [hX4]; exact Whole.setRow z3 _
          have b4 : Below p.heap.size p X4 := by rw [hX4]; exact below_setRow b3 hgl _
          rw [if_pos (by kernel_rfl)]
          refine wp_store_row 28 _ _ rfl G _ rfl rfl 28 _ z3 (by rw [tagSize, tag_size hTl]) (by rw [ztr_size, tag_size hTl]) (tag_one _) ?_
          rw [← hX4]
          clear hX4
          refine hKK.out _ _ (trivial) (fun hHeld => ?_)
          clear hKK KK
          (try simp only [List.getElem_toArray, List.getElem_cons_succ, List.getElem_cons_zero, Act.put, List.setIfInBounds_toArray, List.set_cons_zero, List.set_cons_succ])
          refine wpAnyH_done (by kernel_rfl) ?_ _
          clear hHeld
          go_wp2_with fail
          go_meet
          exact ⟨G, rfl, t4, b4⟩
      case rest =>
        obtain ⟨GT, rfl, hr, hbu⟩ := hcut
        rename World => wc
        have hswc : p.heap.size ≤ wc.heap.size := hbu.size
        have H7 : Hid (Below w.heap.size w wc) := Lib.hid ((Below.trans H1.out (Below.mono hbu (Below.size H1.out))))
        have H8 : Hid (TGRow wc (w.heap.size + 1) K) := Lib.hid ((Whole.below H2.out hbu (Whole.lt H2.out)))
        have H9 : Hid (Bytes wc (fun _ => True) (.slice B e d) (Y)) := Lib.hid ((Bytes.below H3.out hbu (Nat.le_refl _)))
        have H10 : Hid (Bytes wc (fun _ => True) (.slice (if d = e then B else Option.map (fun x => x.add e) B) 32 (d - e)) (D)) := Lib.hid ((Bytes.below H4.out hbu (Nat.le_refl _)))
        have H11 : Hid (Bytes wc (fun _ => True) (.slice (if d = 8 then B else Option.map (fun x => x.add 8) B) (e - 8) (d - 8)) (M)) := Lib.hid ((Bytes.below H5.out hbu (Nat.le_refl _)))
        have H12 : Hid (Below p.heap.size p wc) := Lib.hid ((Below.trans H6.out (Below.mono hbu (Below.size H6.out))))
        clear H1 H2 H3 H4 H5 H6
        have H13 : Hid (TGRow wc GT T) := Lib.hid (hr)
        clear hr hbu
        clear H9
        obtain ⟨q, hq⟩ : ∃ q, q = decide (T = D) := ⟨_, rfl⟩
        have hcl : ∀ W, Below wc.heap.size wc W → Calls Tryd.prog 31 #[.slice (some ⟨GT, 0, none⟩) 32 32, .slice (if d = e then B else Option.map (fun x => x.add e) B) 32 (d - e)] W fun x w' => x = .returned (.bool q) ∧ Below W.heap.size W w' := fun W hb => by
          have hby := Whole.bytes (Whole.below H13.out hb (Whole.lt H13.out)) (by have := HlT.out; omega)
          rw [HlT.out] at hby
          have := same_ _ _ T D _ _ W hby (H10.out.below hb (Nat.le_refl _)) (by have := HlT.out; omega) (by have := HDl.out; omega)
          rw [← hq] at this
          exact this
        have HCL := Lib.hid hcl
        have HQ := Lib.hid hq
        clear hcl hq
        go_upto_region 12 with fail
        have hcc : ∀ W, Below wc.heap.size wc W → (fun W : World => True) W := fun W hb => trivial
        have HCC := Lib.hid hcc
        clear hcc
        have hb0 : Below wc.heap.size wc wc.drew := Below.drew (Below.refl _ _)
        refine wp_region_held_drew (S := fun W : World => True) (by kernel_rfl) (HCC.out _ hb0) (fun hHeld => ?_)
        apply wpAnyH_take (i := 0) rfl (by kernel_rfl) (by kernel_rfl) (by kernel_rfl)
        case hQ => exact fun _ _ _ h => h
        case hS => exact hHeld
        case hy => (refine Or.inl ⟨by rfl, ?_⟩; intro w hSw; (try go_split_ands); go_simp; (try with_reducible rfl))
        (try simp only [List.getElem_toArray, List.getElem_cons_zero, Act.put, List.setIfInBounds_toArray, List.set_cons_zero, List.set_cons_succ])
        apply wpAnyH_take (i := 1) rfl (by kernel_rfl) (by kernel_rfl) (by kernel_rfl)
        case hQ => exact fun _ _ _ h => h
        case hS => exact hHeld
        case hy => (refine Or.inl ⟨by rfl, ?_⟩; intro w hSw; (try go_split_ands); go_simp; (try with_reducible rfl))
        (try simp only [List.getElem_toArray, List.getElem_cons_succ, List.getElem_cons_zero, Act.put, List.setIfInBounds_toArray, List.set_cons_zero, List.set_cons_succ])
        apply wpAnyH_take (i := 2) rfl (by kernel_rfl) (by kernel_rfl) (by kernel_rfl)
        case hQ => exact fun _ _ _ h => h
        case hS => exact hHeld
        case hy => (refine Or.inl ⟨by rfl, ?_⟩; intro w hSw; (try go_split_ands); go_simp; (try with_reducible rfl))
        (try simp only [List.getElem_toArray, List.getElem_cons_succ, List.getElem_cons_zero, Act.put, List.setIfInBounds_toArray, List.set_cons_zero, List.set_cons_succ])
        apply wpAnyH_take (i := 3) rfl (by kernel_rfl) (by kernel_rfl) (by kernel_rfl)
        case hQ => exact fun _ _ _ h => h
        case hS => exact hHeld
        case hy => (refine Or.inl ⟨by rfl, ?_⟩; intro w hSw; (try go_split_ands); go_simp; (try with_reducible rfl))
        (try simp only [List.getElem_toArray, List.getElem_cons_succ, List.getElem_cons_zero, Act.put, List.setIfInBounds_toArray, List.set_cons_zero, List.set_cons_succ])
        apply wpAnyH_take (i := 4) rfl (by kernel_rfl) (by kernel_rfl) (by kernel_rfl)
        case hQ => exact fun _ _ _ h => h
        case hS => exact hHeld
        case hy => (refine Or.inl ⟨by rfl, ?_⟩; intro w hSw; (try go_split_ands); go_simp; (try with_reducible rfl))
        (try simp only [List.getElem_toArray, List.getElem_cons_succ, List.getElem_cons_zero, Act.put, List.setIfInBounds_toArray, List.set_cons_zero, List.set_cons_succ])
        refine wpAnyH_ready (rs := [5]) (by kernel_rfl) (by simp) ?_
        refine AllReadyH.cons rfl (fun KK hKK => ?_) AllReadyH.nil
        (try simp only [List.getElem_toArray, List.getElem_cons_succ, List.getElem_cons_zero])
        go_simp
        go_at_call 31
        refine (HCL.out _ hb0).mono ?_
        rintro x V1 ⟨rfl, hv1⟩
        have hv1t := Below.trans hb0 (Below.mono hv1 (Below.size hb0))
        clear hv1
        refine hKK.out _ _ (HCC.out _ hv1t) (fun hHeld => ?_)
        clear hKK KK
        (try simp only [List.getElem_toArray, List.getElem_cons_succ, List.getElem_cons_zero, Act.put, List.setIfInBounds_toArray, List.set_cons_zero, List.set_cons_succ])
        apply wpAnyH_take (i := 6) rfl (by kernel_rfl) (by kernel_rfl) (by kernel_rfl)
        case hQ => exact fun _ _ _ h => h
        case hS => exact hHeld
        case hy => (refine Or.inl ⟨by rfl, ?_⟩; intro w hSw; (try go_split_ands); go_simp; (try with_reducible rfl))
        (try simp only [List.getElem_toArray, List.getElem_cons_succ, List.getElem_cons_zero, Act.put, List.setIfInBounds_toArray, List.set_cons_zero, List.set_cons_succ])
        refine wpAnyH_done (by kernel_rfl) ?_ _
        clear hst HCL
        have hsv1 : wc.heap.size ≤ V1.heap.size := Below.size hv1t
        have H14 : Hid (Below w.heap.size w V1) := Lib.hid ((Below.trans H7.out (Below.mono hv1t (Below.size H7.out))))
        have H15 : Hid (TGRow V1 (w.heap.size + 1) K) := Lib.hid ((Whole.below H8.out hv1t (Whole.lt H8.out)))
        have H16 : Hid (Bytes V1 (fun _ => True) (.slice (if d = e then B else Option.map (fun x => x.add e) B) 32 (d - e)) (D)) := Lib.hid ((Bytes.below H10.out hv1t (Nat.le_refl _)))
        have H17 : Hid (Bytes V1 (fun _ => True) (.slice (if d = 8 then B else Option.map (fun x => x.add 8) B) (e - 8) (d - 8)) (M)) := Lib.hid ((Bytes.below H11.out hv1t (Nat.le_refl _)))
        have H18 : Hid (Below p.heap.size p V1) := Lib.hid ((Below.trans H12.out (Below.mono hv1t (Below.size H12.out))))
        have H19 : Hid (TGRow V1 GT T) := Lib.hid ((Whole.below H13.out hv1t (Whole.lt H13.out)))
        clear H7 H8 H10 H11 H12 H13
        clear hv1t
        clear H19
        clear H16
        cases q
        · skip
          have hRR : R = ([], 14) := by rw [HRR.out]; exact if_neg (by have := HQ.out; simpa using this)
          subst hRR
          clear HRR HQ HTT
          go_wp2_with fail
          go_ret2
          exact ⟨⟨_, rfl, Bytes.nil _ _⟩, H14.out⟩
        · skip
          have hRR : R = (strm K (beval N) M, 0) := by rw [HRR.out]; exact if_pos (by have := HQ.out; simpa using this)
          have HRR := Lib.hid hRR
          obtain ⟨gB, oB, rfl, hce⟩ := HCE.out
          have hce2 : ∀ j, j < 8 → ∃ x, m.take (j + 1) = m.take j ++ [x] ∧ V1.cell? ⟨gB, oB + j, none⟩ = some (byt x) := fun j hj => by
            obtain ⟨x, h1, h2⟩ := hce j hj
            exact ⟨x, h1, (H18.out.cell (p := ⟨gB, oB + j, none⟩) (World.block_lt_of_cell? p _ h2)).trans h2⟩
          have HCE2 := Lib.hid hce2
          clear hRR hce hce2 HCE HQ
          go_wp2_with fail
          go_loopw [11, 12] (fun nv iv wr => ∃ j : Nat, iv = .int .i64 j ∧ j ≤ 8 ∧ nv = .int .u64 ((beval (m.take j) : Nat) : Int) ∧ wr = V1) (fun _ v _ => 8 - (intOf v).toNat)
          case atStart => exact ⟨0, rfl, by omega, rfl, rfl⟩
          case round =>
            obtain ⟨j, rfl, hj, rfl, hwr⟩ := hrel
            subst hwr
            by_cases hlt : j < 8
            case pos =>
              obtain ⟨c, hc1, hc2⟩ := HCE2.out j hlt
              obtain ⟨X, hX⟩ : ∃ X, X = beval (m.take j) := ⟨_, rfl⟩
              have hXX : beval (m.take (j + 1)) = 256 * X + c.toNat := by rw [hc1, beval_snoc, hX]
              have hX56 : X < 2 ^ 56 := by rw [hX]; exact beval_lt7 _ (by rw [List.length_take]; omega)
              have hc8 := c.isLt
              have HXX := Lib.hid hXX
              rw [← hX]
              have j0 : (0 : Int) ≤ (j : Int) := by omega
              have jm : (j : Int) < (m.length : Int) := by omega
              have j8 : (j : Int) < 8 := by omega
              have e1 : IntKind.u64.wrap (256 * (X : Int)) = 256 * (X : Int) := by rw [IntKind.wrap_u64]; omega
              have e3 : IntKind.u64.wrap (bv c) = bv c := by rw [IntKind.wrap_u64]; unfold bv; omega
              have e2 : IntKind.u64.wrap (256 * (X : Int) + bv c) = ((256 * X + c.toNat : Nat) : Int) := by rw [IntKind.wrap_u64]; unfold bv; omega
              clear hc1 hX hXX hX56 hc8
              go_wp2_with fail
              go_roundw
              case rel => exact ⟨j + 1, by go_num, by omega, (by rw [HXX.out]; simp), by first | rfl | trivial⟩
              case measure => simp [intOf]; omega
            obtain rfl : j = 8 := by omega
            clear hlt hj
            rw [← HN.out]
            obtain ⟨Z, hZ⟩ : ∃ Z, Z = strm K (beval N) M := ⟨_, rfl⟩
            have hlK := hK
            have hcl : ∀ W, Below wr.heap.size wr W → Calls Tryd.prog 34 #[.agg (K.map byt).toArray, .int .u64 ((beval N : Nat) : Int), .slice (if d = 8 then some (⟨gB, oB, none⟩ : Addr) else Option.map (fun x => x.add 8) (some (⟨gB, oB, none⟩ : Addr))) (e - 8) (d - 8)] W fun x w' => (∃ v, x = .returned v ∧ Bytes w' (fun g => W.heap.size ≤ g) v Z) ∧ Below W.heap.size W w' := fun W hb => by
              rw [hZ]
              exact rstream_beval hK HNl.out HMl.out (H17.out.below hb (Nat.le_refl _)) (by omega)
            have HCL := Lib.hid hcl
            have hRR := HRR.out
            rw [← hZ] at hRR
            subst hRR
            clear hcl hZ HRR HCE2
            obtain ⟨nz, hnz⟩ : ∃ n : Int, n = ((beval N : Nat) : Int) := ⟨_, rfl⟩
            rw [← hnz] at HCL ⊢
            obtain ⟨Bv, hBv⟩ : ∃ v : Option Addr, v = some (⟨gB, oB, none⟩ : Addr) := ⟨_, rfl⟩
            rw [← hBv] at HCL ⊢
            clear hnz hBv
            clear H17
            go_upto_region 19 with fail
            have hcc : ∀ W, Below wr.heap.size wr W → (fun W : World => W.rangeAt (w.heap.size + 1) 0 (K.map byt)) W := fun W hb => TGRow.range (Whole.below H15.out hb (Whole.lt H15.out))
            have HCC := Lib.hid hcc
            clear hcc
            have hb0 : Below wr.heap.size wr wr.drew := Below.drew (Below.refl _ _)
            refine wp_region_held_drew (S := fun W : World => W.rangeAt (w.heap.size + 1) 0 (K.map byt)) (by kernel_rfl) (HCC.out _ hb0) (fun hHeld => ?_)
            apply wpAnyH_take (i := 0) rfl (by kernel_rfl) (by kernel_rfl) (by kernel_rfl)
            case hQ => exact fun _ _ _ h => h
            case hS => exact hHeld
            case hy => exact yieldsIf_load_mid (by rfl) 28 _ rfl (w.heap.size + 1) (0) rfl ((K.map byt)) _ (fun w hS => hS) Tryd.underlying28 rfl (by rw [tagSize, List.length_map, hlK])
            (try simp only [List.getElem_toArray, List.getElem_cons_zero, Act.put, List.setIfInBounds_toArray, List.set_cons_zero, List.set_cons_succ])
            apply wpAnyH_take (i := 1) rfl (by kernel_rfl) (by kernel_rfl) (by kernel_rfl)
            case hQ => exact fun _ _ _ h => h
            case hS => exact hHeld
            case hy => (refine Or.inl ⟨by rfl, ?_⟩; intro w hSw; (try go_split_ands); go_simp; (try with_reducible rfl))
            (try simp only [List.getElem_toArray, List.getElem_cons_succ, List.getElem_cons_zero, Act.put, List.setIfInBounds_toArray, List.set_cons_zero, List.set_cons_succ])
            apply wpAnyH_take (i := 2) rfl (by kernel_rfl) (by kernel_rfl) (by kernel_rfl)
            case hQ => exact fun _ _ _ h => h
            case hS => exact hHeld
            case hy => (refine Or.inl ⟨by rfl, ?_⟩; intro w hSw; (try go_split_ands); go_simp; (try with_reducible rfl))
            (try simp only [List.getElem_toArray, List.getElem_cons_succ, List.getElem_cons_zero, Act.put, List.setIfInBounds_toArray, List.set_cons_zero, List.set_cons_succ])
            apply wpAnyH_take (i := 3) rfl (by kernel_rfl) (by kernel_rfl) (by kernel_rfl)
            case hQ => exact fun _ _ _ h => h
            case hS => exact hHeld
            case hy => (refine Or.inl ⟨by rfl, ?_⟩; intro w hSw; (try go_split_ands); go_simp; (try with_reducible rfl))
            (try simp only [List.getElem_toArray, List.getElem_cons_succ, List.getElem_cons_zero, Act.put, List.setIfInBounds_toArray, List.set_cons_zero, List.set_cons_succ])
            apply wpAnyH_take (i := 4) rfl (by kernel_rfl) (by kernel_rfl) (by kernel_rfl)
            case hQ => exact fun _ _ _ h => h
            case hS => exact hHeld
            case hy => (refine Or.inl ⟨by rfl, ?_⟩; intro w hSw; (try go_split_ands); go_simp; (try with_reducible rfl))
            (try simp only [List.getElem_toArray, List.getElem_cons_succ, List.getElem_cons_zero, Act.put, List.setIfInBounds_toArray, List.set_cons_zero, List.set_cons_succ])
            apply wpAnyH_take (i := 5) rfl (by kernel_rfl) (by kernel_rfl) (by kernel_rfl)
            case hQ => exact fun _ _ _ h => h
            case hS => exact hHeld
            case hy => (refine Or.inl ⟨by rfl, ?_⟩; intro w hSw; (try go_split_ands); go_simp; (try with_reducible rfl))
            (try simp only [List.getElem_toArray, List.getElem_cons_succ, List.getElem_cons_zero, Act.put, List.setIfInBounds_toArray, List.set_cons_zero, List.set_cons_succ])
            refine wpAnyH_ready (rs := [6]) (by kernel_rfl) (by simp) ?_
            refine AllReadyH.cons rfl (fun KK hKK => ?_) AllReadyH.nil
            (try simp only [List.getElem_toArray, List.getElem_cons_succ, List.getElem_cons_zero])
            go_simp
            go_at_call 34
            refine (HCL.out _ hb0).mono ?_
            rintro x V2 ⟨⟨v2, rfl, hvz⟩, hv2⟩
            have hv2t := Below.trans hb0 (Below.mono hv2 (Below.size hb0))
            have HV := Lib.hid (hvz.mono (Q' := fun g => w.heap.size ≤ g) fun q _ hq => by have := Below.size hb0; omega)
            clear hvz
            clear hv2
            refine hKK.out _ _ (HCC.out _ hv2t) (fun hHeld => ?_)
            clear hKK KK
            (try simp only [List.getElem_toArray, List.getElem_cons_succ, List.getElem_cons_zero, Act.put, List.setIfInBounds_toArray, List.set_cons_zero, List.set_cons_succ])
            apply wpAnyH_take (i := 7) rfl (by kernel_rfl) (by kernel_rfl) (by kernel_rfl)
            case hQ => exact fun _ _ _ h => h
            case hS => exact hHeld
            case hy => (refine Or.inl ⟨by rfl, ?_⟩; intro w hSw; (try go_split_ands); go_simp; (try with_reducible rfl))
            (try simp only [List.getElem_toArray, List.getElem_cons_succ, List.getElem_cons_zero, Act.put, List.setIfInBounds_toArray, List.set_cons_zero, List.set_cons_succ])
            apply wpAnyH_take (i := 8) rfl (by kernel_rfl) (by kernel_rfl) (by kernel_rfl)
            case hQ => exact fun _ _ _ h => h
            case hS => exact hHeld
            case hy => (refine Or.inl ⟨by rfl, ?_⟩; intro w hSw; (try go_split_ands); go_simp; (try with_reducible rfl))
            (try simp only [List.getElem_toArray, List.getElem_cons_succ, List.getElem_cons_zero, Act.put, List.setIfInBounds_toArray, List.set_cons_zero, List.set_cons_succ])
            refine wpAnyH_done (by kernel_rfl) ?_ _
            have H20 : Hid (Below w.heap.size w V2) := Lib.hid ((Below.trans H14.out (Below.mono hv2t (Below.size H14.out))))
            have H21 : Hid (TGRow V2 (w.heap.size + 1) K) := Lib.hid ((Whole.below H15.out hv2t (Whole.lt H15.out)))
            have H22 : Hid (Below p.heap.size p V2) := Lib.hid ((Below.trans H18.out (Below.mono hv2t (Below.size H18.out))))
            clear H14 H15 H18
            clear hv2t
            go_wp2_with fail
            go_ret2
            exact ⟨⟨_, rfl, HV.out⟩, H20.out⟩
end Go.Proofs.YteekdhcffiaaaaaDoor
