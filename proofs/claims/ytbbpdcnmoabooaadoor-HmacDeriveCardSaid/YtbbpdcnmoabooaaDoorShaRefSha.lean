/-
  The reference's digest by its contract.
-/
import Derived.Test.YtbbpdcnmoabooaaDoorShaRef
import Derived.Test.YtbbpdcnmoabooaaDoorShaLaws
import Derived.Test.YtbbpdcnmoabooaaDoorShaPad
import Derived.Test.YtbbpdcnmoabooaaDoorShaPlain
import Derived.Test.YtbbpdcnmoabooaaDoorShaWrite
namespace Go.Proofs.YtbbpdcnmoabooaaDoor
open Go Go.RowKit Sh Leaf

set_option maxHeartbeats 1000000 in
theorem eight (n : Nat) (w : World) : Calls Tryd.prog 32 #[.int .u64 (n : Int)] w fun e w' => ∃ v', e = .returned v' ∧ Bytes w' (fun g => w.heap.size ≤ g) v' (beBytes n 8) ∧ Below w.heap.size w w' := by
  go_enter Tryd.func32, Tryd.ntmps32
  go_wp2
  go_loopw [3, 4] (fun b i wr => ∃ k : Nat, k ≤ 8 ∧ i = .int .i64 (56 - 8 * (k : Int)) ∧ wr.ownsRow w.heap.size 5 1 b ((beBytes n 8).take k).length (((beBytes n 8).take k).map byt) ∧ Below w.heap.size w wr) (fun _ i _ => (intOf i + 8).toNat)
  case atStart => exact ⟨0, by omega, rfl, World.ownsRow_nil _ _ _ _, Below.refl _ _⟩
  case round =>
    obtain ⟨k, hk, rfl, hown, hb⟩ := hrel
    by_cases hlt : k < 8
    · have hl : ((beBytes n 8).take k).length ≤ 8 := by simp [List.length_take, beBytes_length]; omega
      have hbs := hb.size
      have hz := be_byte n (7 - k)
      rw [show 8 * (7 - k) = 56 - 8 * k by omega] at hz
      have i0 : (0 : Int) ≤ 56 - 8 * (k : Int) := by omega
      have HZ := Lib.hid hz
      clear hz
      go_wp2_with (at_builtin; go_must (refine wpList_append_bytes rfl _ _ rfl w.heap.size _ ((beBytes n 8).take k) rfl (hown.alloc _) _ (.slice (some ⟨wr.heap.size, 0, none⟩) 1 1) _ rfl (bytes_one wr _ _ HZ.out) (by simp only [List.length_singleton]; omega) (by simp; omega) ?_; intro v' w' h1 h2))
      go_roundw
      case rel =>
        refine ⟨k + 1, by omega, by go_num, ?_, (hb.alloc (by omega) _).trans h2⟩
        rw [beBytes_take_succ n 8 k hlt]; exact h1
      case measure => simp [intOf]; omega
    · have ek : (beBytes n 8).take k = beBytes n 8 := List.take_of_length_le (by rw [beBytes_length]; omega)
      rw [ek] at hown
      clear ek
      go_wp2
      go_ret
      exact ⟨_, rfl, Bytes.of_own hown, hb⟩

/-- What has been laid behind the message: 128 and z zero bytes. -/
def part (l : List B8) (z : Nat) : List B8 := l ++ 128 :: List.replicate z 0
theorem part_length (l : List B8) (z : Nat) : (part l z).length = l.length + 1 + z := by simp [part]; omega
theorem part_succ (l : List B8) (z : Nat) : part l (z + 1) = part l z ++ [0] := by
  unfold part
  rw [List.replicate_succ', List.append_assoc, List.cons_append]
theorem part_pad (l : List B8) : part l ((119 - l.length % 64) % 64) ++ beBytes (l.length * 8) 8 = l ++ pad l.length := by simp [part, pad]
/-- What the second loop of the reference's digest keeps. -/
def RefLoop (w : World) (M : List B8) (vm : Value) (gh q : Nat) (wr : World) : Prop :=
  64 * q ≤ M.length ∧ Bytes wr (fun g => g ≠ gh ∧ g ≠ w.heap.size) vm M ∧ Whole wr gh 32 (wrow 8 (blocks init M q).at) ∧ Whole wr w.heap.size 26 (Array.replicate 32 (.int .u8 0)) ∧ Below w.heap.size w wr
/-- What the last loop keeps: k bytes of the digest are written. -/
def RefOut (w : World) (s : St) (D : List B8) (gh go k : Nat) (wr : World) : Prop :=
  Whole wr gh 32 (wrow 8 s.at) ∧ (∃ f, Whole wr go 26 (brow 32 f) ∧ ∀ j, j < k → f j = D.getD j 0) ∧ Whole wr w.heap.size 26 (Array.replicate 32 (.int .u8 0)) ∧ Below w.heap.size w wr
theorem RefOut.step {w : World} {s : St} {D : List B8} {gh go k : Nat} {wr : World} {f : Nat → B8} (hh : Whole wr gh 32 (wrow 8 s.at)) (hf : Whole wr go 26 (brow 32 f)) (hfk : ∀ j, j < k → f j = D.getD j 0)
    (hkw : Whole wr w.heap.size 26 (Array.replicate 32 (.int .u8 0))) (hkb : Below w.heap.size w wr) (hk : k < 32) (h1 : gh < go) (h2 : w.heap.size < go) (hd : D.getD k 0 = BitVec.ofNat 8 ((s.at (k / 4)).toNat / 256 ^ (3 - k % 4))) :
    RefOut w s D gh go (k + 1) (wr.setCell ⟨go, k, none⟩ (.int .u8 (iv (s.at (k / 4)) / 2 ^ (24 - 8 * (k % 4)) % 256))) := by
  have e : iv (s.at (k / 4)) / 2 ^ (24 - 8 * (k % 4)) % 256 = bv (D.getD k 0) := by
    rw [hd, ← be_byte, show 8 * (3 - k % 4) = 24 - 8 * (k % 4) by omega]
    have : iv (s.at (k / 4)) = (((s.at (k / 4)).toNat : Nat) : Int) := by unfold iv; rfl
    rw [this]
  rw [e]
  refine ⟨hh.far (by show gh ≠ go; omega) _, ⟨_, by rw [← brow_set 32 f k (D.getD k 0) hk]; exact hf.set k _, fun j hj => ?_⟩, hkw.far (by show w.heap.size ≠ go; omega) _, hkb.setCell (by show w.heap.size ≤ go; omega) _⟩
  by_cases hjk : j = k
  · subst hjk; simp
  · simp only [hjk, if_false]; exact hfk j (by omega)

set_option maxRecDepth 100000 in
set_option maxHeartbeats 4000000 in
theorem ref_sha (v : Value) (l : List B8) (Q : Nat → Prop) (w : World) (hr : Bytes w Q v l) (hl : l.length ≤ 1000000) :
    Calls Tryd.prog 14 #[v] w fun e w' => e = .returned (.agg ((sha l).map byt).toArray) ∧ Below w.heap.size w w' := by
  obtain ⟨A, c, rfl, -⟩ := id hr
  go_enter Tryd.func14, Tryd.ntmps14
  go_wp2_with (first
    | (at_builtin; refine wpList_append_bytes rfl (.tmp 8) (.tmp 9) rfl (w.heap.size + 1) (.slice (some ⟨w.heap.size + 1, 0, none⟩) 0 0) [] rfl (own_lit_at _ (w.heap.size + 1) (w.heap.size + 1) [] (by simp) (Nat.le_refl _) (by simp)) Q _ l rfl ((hr.alloc _).alloc _) (by simp; omega) (by simp) ?_; intro v1 w1 ho1 hb1; rw [List.nil_append] at ho1; have hs1 := hb1.size; (try simp at hs1))
    | (at_builtin; refine wpList_append_bytes rfl (.tmp 10) (.tmp 11) rfl (w.heap.size + 1) _ l rfl (ho1.alloc _) _ (.slice (some ⟨w1.heap.size, 0, none⟩) 1 1) [128] rfl (bytes_one w1 128 128 bv_128.symm) (by simp; omega) (by simp; omega) ?_; intro v2 w2 ho2 hb2))
  have k1 : Whole w1 w.heap.size 26 (Array.replicate 32 (.int .u8 0)) := Whole.below ((Whole.here _ _ _).alloc _) hb1 (by omega)
  have kb1 : Below w.heap.size w w1 := (((Below.refl _ _).alloc (Nat.le_refl _) _).alloc (by simp) _).trans (hb1.mono (by omega))
  have k2 : Whole w2 w.heap.size 26 (Array.replicate 32 (.int .u8 0)) := Whole.below (k1.alloc _) hb2 (by omega)
  have kb2 : Below w.heap.size w w2 := (kb1.alloc (by omega) _).trans (hb2.mono (by omega))
  have hs2 : w.heap.size + 1 ≤ w2.heap.size := Nat.le_trans (by simp; omega) hb2.size
  clear hb1 hb2 ho1 k1 kb1 hs1
  go_loopw [3] (fun vm wr => ∃ z : Nat, z ≤ (119 - l.length % 64) % 64 ∧ wr.ownsRow (w.heap.size + 1) 5 1 vm (part l z).length ((part l z).map byt) ∧ Below (w.heap.size + 1) w2 wr) (fun vm _ => l.length + 100 - slen vm)
  case atStart => exact ⟨0, by omega, ho2, Below.refl _ _⟩
  case round =>
    clear ho2
    obtain ⟨z, hz, hown, hb⟩ := hrel
    have hpl := part_length l z
    have hbs := hb.size
    by_cases hlt : z < (119 - l.length % 64) % 64
    · have ht : ¬ ((part l z).length : Int) % 64 = 56 := by omega
      have hp1 : (part l z).length ≤ 2000000 := by omega
      have hp2 : (part l z).length < l.length + 100 := by omega
      have hb0 := Bytes.of_own hown
      obtain ⟨A3, c3, rfl, -⟩ := id hb0
      clear hb0 hpl
      go_wp2_with (at_builtin; go_must (refine wpList_append_bytes rfl _ _ rfl (w.heap.size + 1) _ (part l z) rfl (hown.alloc _) _ (.slice (some ⟨wr.heap.size, 0, none⟩) 1 1) [0] rfl (bytes_one wr 0 0 bv_zero.symm) (by simp only [List.length_singleton]; omega) (by simp; omega) ?_; intro v3 w3 ho3 hb3))
      rw [← part_succ] at ho3
      have hl3 := part_length l (z + 1)
      have hb4 := Bytes.of_own ho3
      obtain ⟨A4, c4, rfl, -⟩ := id hb4
      have HL3 := Lib.hid hl3
      have HP := Lib.hid (part_length l z)
      clear hb4 hl3
      go_roundw
      case rel => exact ⟨z + 1, by omega, ho3, (hb.alloc (by omega) _).trans hb3⟩
      case measure => simp only [slen]; rw [HL3.out, HP.out]; omega
    · have hzz : z = (119 - l.length % 64) % 64 := by omega
      have ht : ((part l z).length : Int) % 64 = 56 := by omega
      have hb0 := Bytes.of_own hown
      obtain ⟨A3, c3, rfl, -⟩ := id hb0
      have HZZ := Lib.hid hzz
      have h8 := eight (l.length * 8)
      rw [show ((l.length * 8 : Nat) : Int) = (l.length : Int) * 8 by omega] at h8
      have H8 := Lib.hid h8
      have hpl2 : (part l z).length ≤ 2000000 := by omega
      have hkw := k2.below hb (by omega)
      have hkb := kb2.trans (hb.mono (by omega))
      have hsr : w.heap.size + 1 ≤ wr.heap.size := by omega
      clear h8 hzz hb0 hpl hb hbs k2 kb2 hs2 hr
      go_wp2_with fail
      refine (H8.out wr).mono ?_
      rintro e w3 ⟨v8, rfl, hv8, hb3⟩
      have hown3 := own_below hown hb3 (Nat.le_refl _)
      have hkw3 := hkw.below hb3 hkw.lt
      have hkb3 := hkb.trans (hb3.mono hkb.size)
      have hs3 : w.heap.size + 1 ≤ w3.heap.size := Nat.le_trans hsr hb3.size
      clear hown hkw hkb hb3 H8
      go_wp2_with (at_builtin; go_must (refine wpList_append_bytes rfl _ _ rfl (w.heap.size + 1) _ (part l z) rfl hown3 _ v8 (beBytes (l.length * 8) 8) rfl hv8 (by rw [beBytes_length]; omega) hs3 ?_; intro v4 w4 ho4 hb4))
      obtain ⟨M, hM⟩ : ∃ M, M = l ++ pad l.length := ⟨_, rfl⟩
      have eM : part l z ++ beBytes (l.length * 8) 8 = M := by rw [hM, HZZ.out, part_pad]
      rw [eM] at ho4
      have hM64 : M.length % 64 = 0 := by rw [hM, List.length_append, pad_length]; omega
      have hMl : M.length ≤ 2000000 := by rw [hM, List.length_append, pad_length]; omega
      have HM := Lib.hid hM
      have hm4 := Bytes.of_own ho4
      have hkw4 := hkw3.below hb4 (by omega)
      have hkb4 := hkb3.trans (hb4.mono (by omega))
      have hs4 : w.heap.size + 1 ≤ w4.heap.size := Nat.le_trans hs3 hb4.size
      obtain ⟨A5, c5, rfl, -⟩ := id hm4
      have HM64 := Lib.hid hM64
      clear hM eM ho4 hb4 hkw3 hkb3 hs3 hv8 hown3 ht hpl2 HZZ hM64
      refine (ref_initial w4).mono ?_
      rintro e w5 ⟨rfl, hb5⟩
      have hm5 : Bytes w5 (fun g => g ≠ w5.heap.size ∧ g ≠ w.heap.size) (.slice A5 M.length c5) M := by
        have h1 : Bytes w4 (fun g => w.heap.size < g ∧ g < w4.heap.size) (.slice A5 M.length c5) M := hm4.mono fun g hg h => ⟨h, hg⟩
        exact (h1.below hb5 (Nat.le_refl _)).mono fun g hg h => ⟨by omega, by have := h.1; omega⟩
      have hkw5 := hkw4.below hb5 hkw4.lt
      have hkb5 := hkb4.trans (hb5.mono hkb4.size)
      have hs5 : w.heap.size + 1 ≤ w5.heap.size := Nat.le_trans hs4 hb5.size
      clear hm4 hkw4 hkb4 hb5 hs4
      go_wp2_with (first
        | (with_reducible refine wpList_store_row rfl 32 _ _ rfl w5.heap.size _ rfl rfl _ _ ((Whole.at_ _ _ _ _ rfl).eq) ?_ ?_ ?_ ?_))
      · kernel_rfl
      · rfl
      · simp [Value.oneCell']
      rw [World.setRow_alloc_new]
      have HI8 : Hid ((Tryd.prog.info? 32).map (·.size) = some 8) := Lib.hid (by kernel_rfl)
      have hrel0 : RefLoop w M (.slice A5 M.length c5) w5.heap.size 0 (w5.alloc (.cells (stv init) 32)) :=
        ⟨by omega, hm5.alloc _, by rw [stv_wrow]; exact Whole.here _ _ _, hkw5.alloc _, hkb5.alloc (by omega) _⟩
      have HR0 := Lib.hid hrel0
      clear hrel0 hm5 hkw5 hkb5
      go_wp2
      go_loopw [5] (fun i wr => ∃ q : Nat, i = .int .i64 (64 * (q : Int)) ∧ RefLoop w M (.slice A5 M.length c5) w5.heap.size q wr) (fun i _ => M.length - (intOf i).toNat)
      case atStart => exact ⟨0, rfl, HR0.out⟩
      case round =>
        clear HR0
        obtain ⟨q, rfl, hq, hm, hh, hkw, hkb⟩ := hrel
        by_cases hlt : 64 * q < M.length
        · have hq1 : 64 * q + 64 ≤ M.length := by have := HM64.out; omega
          obtain ⟨g, o, c', hsl, hQ, hcells⟩ := bytes_mid hm q hq1
          have hr8 : wr.rangeAt w5.heap.size 0 (stl (blocks init M q)) := by
            have := World.rangeAt_of_block hh.eq 0 8
            rw [← stv_wrow] at this
            exact this
          have HSL := Lib.hid hsl
          have HC := Lib.hid hcells
          clear hsl hcells
          go_wp2
          refine wp_region_still_tail 6 (by kernel_rfl) (by kernel_rfl) ?_
          simp only [List.take_succ_cons, List.take_zero, List.drop_succ_cons, List.drop_zero]
          change wpStill _ _ wr.drew (fun a' => wpList _ _ _ _ a' wr.drew) _ _
          refine wpStill_load_run rfl 32 _ rfl w5.heap.size 0 rfl (stl (blocks init M q)) _ ((World.rangeAt_drew _ _ _ _).2 hr8) Tryd.underlying32 rfl (by kernel_rfl) ?_
          refine wpStill_step (fun K hK => ?_); go_simp; refine hK _ ?_; clear hK K
          refine wpStill_step (fun K hK => ?_); go_simp; refine hK _ ?_; clear hK K
          refine wpStill_step (fun K hK => ?_); go_simp; refine hK _ ?_; clear hK K
          refine wpStill_step (fun K hK => ?_); go_simp; (try go_bits); refine hK _ ?_; clear hK K
          refine wpStill_slice_run rfl 22 _ _ _ _ rfl _ (HSL.out _) ?_
          refine wpStill_nil ?_
          clear hr8 HSL
          go_wp2_with fail
          refine (ref_block (blocks init M q) ((M.drop (64 * q)).take 64) g o c' wr.drew HC.out).mono ?_
          rintro e w6 ⟨rfl, hb6⟩
          rw [← blocks_succ]
          have hm6 := (hm.drew).below hb6 (Nat.le_refl _)
          have hh6 := Whole.below hh.drew hb6 hh.lt
          have hkw6 := Whole.below hkw.drew hb6 hkw.lt
          have hkb6 := (hkb.drew).trans (hb6.mono hkb.size)
          clear hm hh hkw hkb hb6 HC hQ
          go_wp2_with (with_reducible refine wpList_store_row rfl 32 _ _ rfl w5.heap.size _ rfl rfl _ _ hh6.eq ?_ ?_ ?_ ?_)
          · exact HI8.out
          · simp [wrow_size]
          · simp [Value.oneCell']
          · have hn : RefLoop w M (.slice A5 M.length c5) w5.heap.size (q + 1) (w6.setRow w5.heap.size (stv (blocks init M (q + 1)))) :=
              ⟨by omega, hm6.setRow (fun g hg => hg.1) _, by rw [stv_wrow]; exact hh6.setRow _, hkw6.setRow_far (by omega) _, below_setRow hkb6 (by omega) _⟩
            have HN := Lib.hid hn
            clear hn hm6 hh6 hkw6 hkb6
            go_roundw
            case rel => exact ⟨q + 1, by go_num, HN.out⟩
            case measure => simp [intOf]; omega
        · have hqq : q = M.length / 64 := by have := HM64.out; omega
          have HQ := Lib.hid hqq
          clear hqq
          obtain ⟨D, hD⟩ : ∃ D, D = digest (blocks init M q) := ⟨_, rfl⟩
          have hDl : D.length = 32 := by rw [hD]; exact digest_length _
          have hDg : ∀ j, j < 32 → D.getD j 0 = BitVec.ofNat 8 (((blocks init M q).at (j / 4)).toNat / 256 ^ (3 - j % 4)) := fun j hj => by rw [hD]; exact digest_get _ j hj
          have HD := Lib.hid hD
          have HDl := Lib.hid hDl
          have HDg := Lib.hid hDg
          clear hD hDl hDg hm
          have hsx : w.heap.size < wr.heap.size := hkw.lt
          have hrel0 : RefOut w (blocks init M q) D w5.heap.size wr.heap.size 0 (wr.alloc (.cells (Array.replicate 32 (.int .u8 0)) 26)) :=
            ⟨hh.alloc _, ⟨fun _ => 0, by rw [brow_zero]; exact Whole.here _ _ _, fun j hj => by omega⟩, hkw.alloc _, hkb.alloc (by omega) _⟩
          have HR0 := Lib.hid hrel0
          have hgh := hh.lt
          clear hrel0 hh hkw hkb
          go_wp2
          go_loopw [7] (fun i wx => ∃ k : Nat, k ≤ 32 ∧ i = .int .i64 k ∧ RefOut w (blocks init M q) D w5.heap.size wr.heap.size k wx) (fun i _ => 32 - (intOf i).toNat)
          case atStart => exact ⟨0, by omega, rfl, HR0.out⟩
          case round =>
            clear HR0
            obtain ⟨k, hk, rfl, hh, ⟨f, hf, hfk⟩, hkw, hkb⟩ := hrel
            by_cases hlt : k < 32
            · have a1 := (hh.cell (k / 4)).trans (wrow_get 8 _ (k / 4) (by omega))
              have a2 := (hf.cell k).trans (brow_get 32 _ k hlt)
              have a3 := hf.frozen k
              have hn := RefOut.step hh hf hfk hkw hkb hlt (by omega) (by omega) (HDg.out k hlt)
              have HN := Lib.hid hn
              clear hn
              go_wp2
              go_roundw
              case rel => exact ⟨k + 1, by omega, by go_num, HN.out⟩
              case measure => simp [intOf]; omega
            · have ef : brow 32 f = (D.map byt).toArray := by
                rw [← brow_list, HDl.out]
                exact brow_congr fun j hj => hfk j (by omega)
              rw [ef] at hf
              have HZ : Hid ((Tryd.prog.info? 26).map (·.size) = some 32) := Lib.hid (by kernel_rfl)
              clear hfk ef hh
              go_wp2_with (first
                | (with_reducible refine wpList_load_row rfl 26 _ rfl _ rfl _ _ _ _ hf.eq Tryd.underlying26 rfl (by rw [HZ.out]; simp [HDl.out]) ?_)
                | (with_reducible refine wpList_store_row rfl 26 _ _ rfl w.heap.size _ rfl rfl _ _ hkw.eq ?_ ?_ ?_ ?_))
              · rw [HZ.out]; simp [HDl.out]
              · simp [HDl.out]
              · exact all_oneCell_toArray (byt_one _)
              · have h3 := hkw.setRow (D.map byt).toArray
                have eD : D = sha l := by rw [HD.out, HQ.out, HM.out]; rfl
                have hs9 : (Tryd.prog.info? 26).map (·.size) = some (D.map byt).toArray.size := by rw [HZ.out]; simp [HDl.out]
                refine bodyPost_ret (results_cell_row Tryd.results14 _ _ w.heap.size _ _ _ _ rfl h3 Tryd.underlying26 rfl hs9) rfl ⟨by rw [eD], below_setRow hkb (by omega) _⟩
end Go.Proofs.YtbbpdcnmoabooaaDoor
