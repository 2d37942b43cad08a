/-
  The program's merge: the spans in order, those that touch joined.
-/
import Derived.BigRegion
import Derived.BigQuiet
import Derived.Deep.CutBlock
import Derived.Deep.DeepCutAuto
import Derived.Test.YtgbcncfhmnhljaaDoorPk17
import Derived.Test.YtgbcncfhmnhljaaDoorPk18
import Derived.Test.YtgbcncfhmnhljaaDoorPk15
namespace Go.Proofs.YtgbcncfhmnhljaaDoor
open Go Go.RowKit Sh Leaf

/-- While merge goes on: the row R, the first j of it merged, those from i on still to come. -/
structure MrI (w : World) (so : List (Int × Int)) (wr : World) (i j : Nat) (R : List (Int × Int)) : Prop where
  row : Whole wr w.heap.size 50 (fl scl R).toArray
  len : R.length = so.length
  le : i ≤ so.length
  mg : Mg so i (R.take j)
  jl : (R.take j).length = j
  rest : R.drop i = so.drop i
  low : Below w.heap.size w wr
theorem row_prefix {wr : World} {g base j n : Nat} {R : List (Int × Int)} (h : Whole wr g 50 (fl scl R).toArray) (hb : base ≤ g) (hj : (R.take j).length = j) (hn : j ≤ n) (hn2 : n ≤ 100000000) (hs : ∀ s ∈ R.take j, sbd s) : Spn wr (fun b => base ≤ b) (some ⟨g, 0, none⟩) n (R.take j) := by
  refine ⟨by omega, by unfold maxLen; omega, fun h => (by cases h), hs, fun _ => ⟨g, 0, rfl, hb, h.lt, fun k v hk => ?_⟩⟩
  rw [Nat.zero_add, h.cell, List.getElem?_toArray]
  have e : fl scl R = fl scl (R.take j) ++ fl scl (R.drop j) := by rw [← fl_append, List.take_append_drop]
  rw [e, List.getElem?_append_left (List.getElem?_eq_some_iff.1 hk).1]
  exact hk
theorem MrI.next {w wr w' : World} {so R : List (Int × Int)} {i j : Nat} (hI : MrI w so wr i j R) {s : Int × Int} (hs : so[i]? = some s) (hb : Below w.heap.size wr w') {R' : List (Int × Int)} {j' : Nat} (hW : Whole w' w.heap.size 50 (fl scl R').toArray) (hl : R'.length = R.length) (hm : Mg so (i + 1) (R'.take j')) (hj : (R'.take j').length = j') (hd : R'.drop (i + 1) = R.drop (i + 1)) : MrI w so w' (i + 1) j' R' := by
  have hi := (List.getElem?_eq_some_iff.1 hs).1
  refine ⟨hW, hl.trans hI.len, hi, hm, hj, ?_, hI.low.trans hb⟩
  rw [hd, ← List.drop_drop, hI.rest, List.drop_drop]
theorem set_take' {α : Type} (L : List α) (i : Nat) (z : α) (h : i < L.length) : (L.set i z).take (i + 1) = L.take i ++ [z] := by
  apply List.ext_getElem?
  intro j
  rw [List.getElem?_take, List.getElem?_set]
  by_cases h1 : j < i
  · rw [if_pos (by omega), if_neg (by omega), List.getElem?_append_left (by simp; omega), List.getElem?_take, if_pos h1]
  · by_cases h2 : j = i
    · subst h2
      rw [if_pos (by omega), if_pos rfl, if_pos h, List.getElem?_append_right (by simp; omega)]
      simp [Nat.min_eq_left (Nat.le_of_lt h)]
    · rw [if_neg (by omega), List.getElem?_eq_none (by simp; omega)]
/-- A span of its own is laid behind the merged ones. -/
theorem MrI.new {w wr w' : World} {so R : List (Int × Int)} {i j : Nat} (hI : MrI w so wr i j R) (hsrt : so.Pairwise fun a b => a.1 ≤ b.1) (hbs : ∀ s ∈ so, 0 ≤ s.1 ∧ s.1 ≤ s.2 ∧ s.2 < 1440) {s : Int × Int} (hs : so[i]? = some s) (hb : Below w.heap.size wr w') (hW : Whole w' w.heap.size 50 (fl scl (R.set j s)).toArray)
    (hn : j = 0 ∨ ∃ p q, R[j - 1]? = some (p, q) ∧ q + 1 < s.1) : MrI w so w' (i + 1) (j + 1) (R.set j s) := by
  have hi := (List.getElem?_eq_some_iff.1 hs).1
  have hji : j ≤ i := by have := hI.mg.len; rw [hI.jl] at this; exact this
  have hjR : j < R.length := by rw [hI.len]; omega
  have e := set_take' R j s hjR
  refine hI.next hs hb hW (by simp) ?_ ?_ ?_
  · rw [e]
    refine hI.mg.new hsrt hbs hs ?_
    rcases hn with rfl | ⟨p, q, hp, hq⟩
    · exact .inl rfl
    · rcases (by omega : j = 0 ∨ 0 < j) with rfl | h0
      · exact .inl rfl
      · refine .inr ⟨R.take (j - 1), p, q, ?_, hq⟩
        rw [← Sh.take_snoc hp]
        congr 1
        omega
  · rw [e, List.length_append, hI.jl]; rfl
  · rw [List.drop_set_of_lt (by omega)]
/-- The last of the merged spans grows. -/
theorem MrI.join {w wr w' : World} {so R : List (Int × Int)} {i j : Nat} (hI : MrI w so wr i (j + 1) R) (hbs : ∀ s ∈ so, 0 ≤ s.1 ∧ s.1 ≤ s.2 ∧ s.2 < 1440) {s : Int × Int} (hs : so[i]? = some s) {p q : Int} (hp : R[j]? = some (p, q)) (hq : s.1 ≤ q + 1) (hb : Below w.heap.size wr w') (hW : Whole w' w.heap.size 50 (fl scl (R.set j (p, max q s.2))).toArray) : MrI w so w' (i + 1) (j + 1) (R.set j (p, max q s.2)) := by
  have hji : j + 1 ≤ i := by have := hI.mg.len; rw [hI.jl] at this; exact this
  have hjR := (List.getElem?_eq_some_iff.1 hp).1
  have e := set_take' R j (p, max q s.2) hjR
  have hm := hI.mg
  rw [Sh.take_snoc hp] at hm
  refine hI.next hs hb hW (by simp) ?_ ?_ ?_
  · rw [e]
    exact hm.join hbs hs hq
  · rw [e, List.length_append, List.length_take]
    simp
    omega
  · rw [List.drop_set_of_lt (by omega)]
set_option maxRecDepth 100000 in
set_option maxHeartbeats 2000000 in
theorem amerge {w : World} {Q : Nat → Prop} {A : Option Addr} {c : Nat} {l : List (Int × Int)} (hS : Spn w Q A c l) (hne : l ≠ []) (hl : l.length ≤ 100000000) (hb : ∀ s ∈ l, 0 ≤ s.1 ∧ s.1 ≤ s.2 ∧ s.2 < 1440) (n : Nat) (hn : n = l.length) :
    Calls Tryd.prog 53 #[.slice A n c] w fun e w' => (∃ A' c' n' mg, e = .returned (.slice A' n' c') ∧ n' = mg.length ∧ Spn w' (fun g => w.heap.size ≤ g) A' c' mg ∧ sepA 0 mg ∧ (∀ s ∈ mg, s.2 < 1440) ∧ ∀ k, spm mg k ↔ spm l k) ∧ Below w.heap.size w w' := by
  obtain ⟨g0, o0, rfl, _, hg0, hrg⟩ := hS.2.2.2.2 (List.length_pos_iff.2 hne)
  have hmk := fun W => make_rows (P := Tryd.prog) (n := 2) Tryd.underlying23 spanInfo (n : Int) n rfl (by omega) (by omega) W
  obtain ⟨Z, hZ⟩ : ∃ Z, Z = zrow (.agg #[.int .i64 0, .int .i64 0]) 2 n := ⟨_, rfl⟩
  have hZs : Z.size = l.length * 2 := by rw [hZ, zrow_size, hn]
  rw [← hZ] at hmk
  have hRG : ∀ j v, (fl scl l)[j]? = some v → (w.alloc (.cells Z 50)).cell? ((⟨g0, o0, none⟩ : Addr).add j) = some v := fun j v hj => by
    rw [Addr.add_mid]
    exact (World.cell?_of_block (Below.heap_alloc w _ g0 hg0)).trans (hrg j v hj)
  have hcp := run_copy_seq (P := Tryd.prog) (f := scl) (n := 2) (g := w.heap.size) (cur := Z) 23 23 3 Tryd.underlying23 (by kernel_rfl) scl_len scl_one (Whole.here w 50 Z) l hZs ⟨g0, o0, none⟩ n c n hn hRG
  obtain ⟨w2, hw2⟩ : ∃ w2, w2 = (w.alloc (.cells Z 50)).setRow w.heap.size (fl scl l).toArray := ⟨_, rfl⟩
  have hW : Whole w2 w.heap.size 50 (fl scl l).toArray := by rw [hw2]; exact (Whole.here _ _ _).setRow _
  have hB2 : Below w.heap.size w w2 := by
    rw [hw2]
    exact ((Below.refl w.heap.size w).alloc (Nat.le_refl _) _).trans ⟨rfl, rfl, rfl, by simp [World.setRow], fun k hk => setRow_other _ _ k _ (by omega)⟩
  rw [← hw2] at hcp
  have hso := asort (cap := n) hW hn hl
  have HB2 := Lib.hid hB2
  have HN := Lib.hid hn
  have HL := Lib.hid hl
  have HB := Lib.hid hb
  have HNE := Lib.hid hne
  have hn0 : 0 < n := by rw [hn]; exact List.length_pos_iff.2 hne
  clear hZ hZs hS hrg hn hl hb hne hRG hw2 hW hB2
  go_enter Tryd.func53, Tryd.ntmps53
  go_wp2_with fail
  refine hso.mono ?_
  rintro e w3 ⟨rfl, so, hperm, hsrt, hW3, hb3⟩
  have HB3 := Lib.hid (HB2.out.trans hb3)
  have hbs : ∀ s ∈ so, 0 ≤ s.1 ∧ s.1 ≤ s.2 ∧ s.2 < 1440 := fun s hs => HB.out s (hperm.subset hs)
  have hlen : so.length = n := by rw [hperm.length_eq, HN.out]
  have hspm : ∀ k, spm so k ↔ spm l k := fun k => ⟨fun ⟨s, hs, h⟩ => ⟨s, hperm.subset hs, h⟩, fun ⟨s, hs, h⟩ => ⟨s, hperm.symm.subset hs, h⟩⟩
  have HSP := Lib.hid hspm
  have HSRT := Lib.hid hsrt
  have HBS := Lib.hid hbs
  have HLEN := Lib.hid hlen
  have HI : Hid (MrI w so w3 0 0 so) := Lib.hid ⟨hW3, rfl, Nat.zero_le _, Mg.start so, by simp, rfl, HB3.out⟩
  have hn47 : n ≤ 100000000 := by rw [HN.out]; exact HL.out
  clear hso hmk hcp hperm hsrt hW3 hb3 hbs hlen hspm HB2 HB3 HB HNE HN HL
  have hcut := fun W => run_seq_to (P := Tryd.prog) (n := 2) (t := 23) (by kernel_rfl) (by kernel_rfl) (some ⟨w.heap.size, 0, none⟩) n n 0 (by omega) W
  go_wp2_with fail
  clear hcut
  go_loopw [4, 20] (fun v iv wr => ∃ i j R, v = .slice (some ⟨w.heap.size, 0, none⟩) j n ∧ iv = .int .i64 (i : Nat) ∧ MrI w so wr i j R) (fun _ iv _ => n - (intOf iv).toNat)
  case atStart => exact ⟨0, 0, so, rfl, rfl, HI.out⟩
  case round =>
    clear HI
    obtain ⟨i, j, R, rfl, rfl, hI⟩ := hrel
    have hw := hI.row
    have hIl := hI.le
    have hjl := hI.jl
    have hjn : j ≤ n := by have := hI.len; have := HLEN.out; rw [List.length_take] at hjl; omega
    have HI := Lib.hid hI
    have hwl := hw.lt
    by_cases hin : i < n
    case neg =>
      obtain rfl : i = n := by have := HLEN.out; omega
      have hmg := hI.mg
      have HF : Hid ((∃ A' c' n' mg, (Ending.returned (.slice (some ⟨w.heap.size, 0, none⟩) j i) : Ending) = .returned (.slice A' n' c') ∧ n' = mg.length ∧ Spn wr (fun g => w.heap.size ≤ g) A' c' mg ∧ sepA 0 mg ∧ (∀ s ∈ mg, s.2 < 1440) ∧ ∀ k, spm mg k ↔ spm l k) ∧ Below w.heap.size w wr) := Lib.hid (by
        refine ⟨⟨_, _, _, R.take j, rfl, hjl.symm, row_prefix hw (Nat.le_refl _) hjl hjn hn47 fun s hs => ?_, hmg.sep, hmg.less, fun k => ?_⟩, hI.low⟩
        · have h1 := sepA_mem hmg.sep s hs
          have h2 := hmg.less s hs
          exact ⟨⟨by omega, by omega⟩, ⟨by omega, by omega⟩⟩
        · rw [hmg.mem, ← HLEN.out, List.take_length, HSP.out])
      clear hw hI HI hmg hIl hjl
      go_wp2_with fail
      go_ret
      exact HF.out
    obtain ⟨⟨s1, s2⟩, hs⟩ : ∃ s, so[i]? = some s := ⟨_, List.getElem?_eq_getElem (by have := HLEN.out; omega)⟩
    have hRs : R[i]? = some (s1, s2) := by
      have e := congrArg (·[0]?) hI.rest
      simp only [List.getElem?_drop, Nat.add_zero] at e
      rw [e, hs]
    have x1 := hw.get_fl scl_len i 0 (s1, s2) _ hRs rfl
    have x2 := hw.get_fl scl_len i 1 (s1, s2) _ hRs rfl
    rw [Nat.add_zero] at x1
    have HW := Lib.hid hw
    have HS := Lib.hid hs
    have HJL := Lib.hid hjl
    have hin' : (i : Int) < (n : Int) := by omega
    have hi0 : (0 : Int) ≤ (i : Int) := by omega
    clear hw hs hRs hI hjl hIl
    rcases (by omega : j = 0 ∨ 0 < j) with rfl | hj
    · have w1 : IntKind.i64.wrap (((0 : Nat) : Int) - 1) = -1 := rfl
      go_upto_region 9 with fail
      go_quiet (fail)
      clear x1 x2 w1
      have hA : Whole ((((wr.alloc (.cells #[.int .i64 s1, .int .i64 s2] 50)).drewN nq).alloc (.cells #[.int .i64 s1, .int .i64 s2] 50))) w.heap.size 50 (fl scl R).toArray := Whole.alloc (Whole.alloc HW.out _ : Whole ((wr.alloc (.cells #[.int .i64 s1, .int .i64 s2] 50)).drewN nq) w.heap.size 50 (fl scl R).toArray) _
      have hL : Whole ((((wr.alloc (.cells #[.int .i64 s1, .int .i64 s2] 50)).drewN nq).alloc (.cells #[.int .i64 s1, .int .i64 s2] 50))) (wr.heap.size + 1) 50 (scl (s1, s2)).toArray := Whole.at_ ((wr.alloc (.cells #[.int .i64 s1, .int .i64 s2] 50)).drewN nq) _ _ _ (by simp)
      have hBx : Below w.heap.size wr ((((wr.alloc (.cells #[.int .i64 s1, .int .i64 s2] 50)).drewN nq).alloc (.cells #[.int .i64 s1, .int .i64 s2] 50))) := (below_drewN ((Below.refl w.heap.size wr).alloc (Nat.le_of_lt hwl) _) nq).alloc (by simp; omega) _
      have HA := Lib.hid hA
      have HL2 := Lib.hid hL
      have HBX := Lib.hid hBx
      have HJR : Hid (0 < R.length) := Lib.hid (by have := HI.out.len; have := HLEN.out; have h3 := HI.out.mg.len; rw [HI.out.jl] at h3; omega)
      have HJN : Hid (0 + 1 ≤ n) := Lib.hid (by have := HI.out.len; have := HLEN.out; have := HJR.out; omega)
      have HNW : Hid (∀ W, Below w.heap.size wr W → Whole W w.heap.size 50 (fl scl (R.set 0 (s1, s2))).toArray → MrI w so W (i + 1) (0 + 1) (R.set 0 (s1, s2))) := Lib.hid fun W hb hW => HI.out.new HSRT.out HBS.out HS.out hb hW (.inl rfl)
      clear hA hL hBx
      go_wp2_with (at_builtin; go_must (refine wpList_append_room (f := scl) (n := 2) rfl _ _ 23 rfl Tryd.underlying23 (by kernel_rfl) scl_len scl_one R HA.out 0 n HJR.out HJN.out (s1, s2) (wr.heap.size + 1) HL2.out 1 rfl rfl ?_; intro hW4; have HF := Lib.hid (HNW.out _ (HBX.out.trans (below_setRow (Below.refl _ _) (Nat.le_refl _) _)) hW4); clear hW4))
      go_roundw
      case rel => exact ⟨i + 1, 0 + 1, _, rfl, by go_num, HF.out⟩
      case measure => simp [intOf]; omega
    · obtain ⟨k, rfl⟩ : ∃ k, j = k + 1 := ⟨j - 1, by omega⟩
      obtain ⟨⟨p, q⟩, hp⟩ : ∃ s, R[k]? = some s := ⟨_, List.getElem?_eq_getElem (by have := HI.out.len; have := HLEN.out; omega)⟩
      have y2 := HW.out.get_fl scl_len k 1 (p, q) _ hp rfl
      have w1 : IntKind.i64.wrap (((k + 1 : Nat) : Int) - 1) = (k : Int) := by rw [IntKind.wrap_i64]; omega
      have hqb : 0 ≤ q ∧ q < 1440 := by
        have hm := HI.out.mg
        rw [Sh.take_snoc hp] at hm
        have h1 := hm.less (p, q) (by simp)
        have h2 := sepA_mem hm.sep (p, q) (by simp)
        simp only at h1 h2
        omega
      have w2 : IntKind.i64.wrap (q + 1) = q + 1 := by rw [IntKind.wrap_i64]; omega
      have hk0 : (0 : Int) ≤ (k : Int) := by omega
      have hk1 : (k : Int) < ((k + 1 : Nat) : Int) := by omega
      have hkn : (k : Int) < (n : Int) := by omega
      have HP := Lib.hid hp
      clear hp
      go_upto_region 9 with fail
      by_cases hq : s1 ≤ q + 1
      · go_quiet (fail)
        have fr := HW.out.frozen (k * 2 + 1)
        clear x1 w1 w2 hqb
        go_upto_region 10 with fail
        go_region
        have hW4 : Whole (((wr.alloc (.cells #[.int .i64 s1, .int .i64 s2] 50)).drewN (nq + 1)).setCell ⟨w.heap.size, k * 2 + 1, none⟩ (.int .i64 (max q s2))) w.heap.size 50 (fl scl (R.set k (p, max q s2))).toArray := Whole.put_fl scl_len (w := (wr.alloc (.cells #[.int .i64 s1, .int .i64 s2] 50)).drewN (nq + 1)) (HW.out.alloc _) k 1 (p, q) (p, max q s2) _ HP.out (by decide) rfl
        have hB4 : Below w.heap.size wr (((wr.alloc (.cells #[.int .i64 s1, .int .i64 s2] 50)).drewN (nq + 1)).setCell ⟨w.heap.size, k * 2 + 1, none⟩ (.int .i64 (max q s2))) := (below_drewN ((Below.refl w.heap.size wr).alloc (Nat.le_of_lt hwl) _) (nq + 1)).setCell (p := ⟨w.heap.size, k * 2 + 1, none⟩) (Nat.le_refl _) _
        have HF := Lib.hid (HI.out.join HBS.out HS.out HP.out (by simp only; omega) hB4 hW4)
        clear hW4 hB4 y2 fr x2
        go_wp2_with fail
        go_roundw
        case rel => exact ⟨i + 1, k + 1, _, rfl, by go_num, HF.out⟩
        case measure => simp [intOf]; omega
      · go_quiet (fail)
        clear x1 x2 w1 y2 w2
        have hA : Whole ((((wr.alloc (.cells #[.int .i64 s1, .int .i64 s2] 50)).drewN nq).alloc (.cells #[.int .i64 s1, .int .i64 s2] 50))) w.heap.size 50 (fl scl R).toArray := Whole.alloc (Whole.alloc HW.out _ : Whole ((wr.alloc (.cells #[.int .i64 s1, .int .i64 s2] 50)).drewN nq) w.heap.size 50 (fl scl R).toArray) _
        have hL : Whole ((((wr.alloc (.cells #[.int .i64 s1, .int .i64 s2] 50)).drewN nq).alloc (.cells #[.int .i64 s1, .int .i64 s2] 50))) (wr.heap.size + 1) 50 (scl (s1, s2)).toArray := Whole.at_ ((wr.alloc (.cells #[.int .i64 s1, .int .i64 s2] 50)).drewN nq) _ _ _ (by simp)
        have hBx : Below w.heap.size wr ((((wr.alloc (.cells #[.int .i64 s1, .int .i64 s2] 50)).drewN nq).alloc (.cells #[.int .i64 s1, .int .i64 s2] 50))) := (below_drewN ((Below.refl w.heap.size wr).alloc (Nat.le_of_lt hwl) _) nq).alloc (by simp; omega) _
        have HA := Lib.hid hA
        have HL2 := Lib.hid hL
        have HBX := Lib.hid hBx
        have HJR : Hid ((k + 1) < R.length) := Lib.hid (by have := HI.out.len; have := HLEN.out; have h3 := HI.out.mg.len; rw [HI.out.jl] at h3; omega)
        have HJN : Hid ((k + 1) + 1 ≤ n) := Lib.hid (by have := HI.out.len; have := HLEN.out; have := HJR.out; omega)
        have HNW : Hid (∀ W, Below w.heap.size wr W → Whole W w.heap.size 50 (fl scl (R.set (k + 1) (s1, s2))).toArray → MrI w so W (i + 1) ((k + 1) + 1) (R.set (k + 1) (s1, s2))) := Lib.hid fun W hb hW => HI.out.new HSRT.out HBS.out HS.out hb hW (.inr ⟨p, q, HP.out, by simp only; omega⟩)
        clear hA hL hBx
        go_wp2_with (at_builtin; go_must (refine wpList_append_room (f := scl) (n := 2) rfl _ _ 23 rfl Tryd.underlying23 (by kernel_rfl) scl_len scl_one R HA.out (k + 1) n HJR.out HJN.out (s1, s2) (wr.heap.size + 1) HL2.out 1 rfl rfl ?_; intro hW4; have HF := Lib.hid (HNW.out _ (HBX.out.trans (below_setRow (Below.refl _ _) (Nat.le_refl _) _)) hW4); clear hW4))
        go_roundw
        case rel => exact ⟨i + 1, (k + 1) + 1, _, rfl, by go_num, HF.out⟩
        case measure => simp [intOf]; omega
end Go.Proofs.YtgbcncfhmnhljaaDoor
