/-
  KMark
  KStr
  HmacLabel
  AlgWord
  KEight
  KBeq
-/
import Derived.Laws.IdiomStrings
import Derived.ArgAppend
import Derived.Test.YteekdhcffiaaaaaDoorPk3
import Derived.Test.YteekdhcffiaaaaaDoorPk5
import Derived.Test.YteekdhcffiaaaaaDoorPk0
namespace Go.Proofs.YteekdhcffiaaaaaDoor
open Go Go.RowKit Sh Leaf

theorem setCells_below {B : Nat} (b : Nat) (hb : B ≤ b) : ∀ (vs : List Value) (o : Nat) (w : World), Below B w (w.setCells b o vs)
  | [], _, _ => Below.refl _ _
  | _ :: r, o, w => ((Below.refl B w).setCell hb _).trans (setCells_below b hb r (o + 1) _)
theorem setCells_size (b : Nat) (vs : List Value) (o : Nat) (w : World) : w.heap.size ≤ (w.setCells b o vs).heap.size := (setCells_below b (Nat.le_refl _) vs o w).size
def OwnM (w : World) (base : Nat) (v : Value) (xs : List B8) : Prop :=
  ∃ g cap, v = .slice (some ⟨g, 0, none⟩) xs.length cap ∧ base ≤ g ∧ g < w.heap.size ∧ xs.length ≤ cap ∧ cap ≤ maxLen ∧ (∀ (j : Nat) (x : B8), xs[j]? = some x → w.cell? ⟨g, j, none⟩ = some (byt x)) ∧ ∀ j, xs.length ≤ j → j < cap → (w.cell? ⟨g, j, none⟩).isSome = true ∧ w.frozen? ⟨g, j, none⟩ = false
theorem OwnM.bytes {w : World} {base : Nat} {v : Value} {xs : List B8} (h : OwnM w base v xs) : Bytes w (fun g => base ≤ g) v xs := by
  obtain ⟨g, cap, rfl, hg, _, hc, hm, hx, _⟩ := h
  exact ⟨_, cap, rfl, hc, hm, fun h => (by cases h), fun _ => ⟨g, 0, rfl, hg, fun j x hj => by rw [Nat.zero_add]; exact hx j x hj⟩⟩
theorem OwnM.below {w w' : World} {base B : Nat} {v : Value} {xs : List B8} (h : OwnM w base v xs) (hb : Below B w w') (hB : w.heap.size ≤ B) : OwnM w' base v xs := by
  obtain ⟨g, cap, rfl, hg, hl, hc, hm, hx, hs⟩ := h
  exact ⟨g, cap, rfl, hg, by have := hb.size; omega, hc, hm, fun j x hj => (hb.cell (p := ⟨g, j, none⟩) (by show g < B; omega)).trans (hx j x hj), fun j h1 h2 => by
    rw [hb.cell (p := ⟨g, j, none⟩) (by show g < B; omega), hb.frozen (p := ⟨g, j, none⟩) (by show g < B; omega)]
    exact hs j h1 h2⟩
theorem OwnM.alloc {w : World} {base : Nat} {v : Value} {xs : List B8} (h : OwnM w base v xs) (o : Obj) : OwnM (w.alloc o) base v xs := h.below ((Below.refl w.heap.size w).alloc (Nat.le_refl _) o) (Nat.le_refl _)
theorem OwnM.drew {w : World} {base : Nat} {v : Value} {xs : List B8} (h : OwnM w base v xs) : OwnM w.drew base v xs := h

theorem run_append_mark {w : World} (ty : TypeId) (base : Nat) (v : Value) (xs : List B8) (hown : OwnM w base v xs) (Q : Nat → Prop) (v2 : Value) (ys : List B8) (hr : Bytes w Q v2 ys) (h0 : 0 < ys.length) (h47 : xs.length + ys.length ≤ 1000000) (hbase : base ≤ w.heap.size) :
    ∃ v' w', (Builtin.append_ #[39, 39] ty #[v, v2]).run Tryd.prog w = .ok v' w' ∧ OwnM w' base v' (xs ++ ys) ∧ Below base w w' := by
  obtain ⟨i0, hi, hz0, hz1, hz2⟩ := info_parts byteInfo
  obtain ⟨g, cap, rfl, hg, hgl, hc, hm, hx, hs⟩ := hown
  obtain ⟨A, c, rfl, hc1, hc2, hc3, hc4⟩ := hr
  obtain ⟨g2, o2, rfl, _, hcell⟩ := hc4 h0
  have hyl : (ys.map byt).length = ys.length := by simp
  have hnews : ∀ j u, (ys.map byt)[j]? = some u → w.cell? ((⟨g2, o2, none⟩ : Addr).add j) = some u := by
    intro j u hj
    rw [Addr.add_mid]
    rw [List.getElem?_map] at hj
    cases hq : ys[j]? with
    | none => rw [hq] at hj; cases hj
    | some y => rw [hq] at hj; have hj := Option.some.inj hj; subst hj; exact hcell j y hq
  by_cases hroom : xs.length + ys.length ≤ cap
  · have hrun := run_append_room_cells (P := Tryd.prog) w 39 ty 5 i0 Tryd.underlying39 hi g 0 xs.length cap ⟨g2, o2, none⟩ ys.length c (ys.map byt) (by rw [hz1, hyl, Nat.mul_one]) hnews (byt_one ys) hroom
      (fun j hj => by rw [hz1, Nat.mul_one, Nat.zero_add]; exact (hs _ (by omega) (by omega)).1) (fun j hj => by rw [hz1, Nat.mul_one, Nat.zero_add]; exact (hs _ (by omega) (by omega)).2)
    rw [hz1, Nat.mul_one, Nat.zero_add] at hrun
    refine ⟨_, _, hrun, ⟨g, cap, by rw [List.length_append], hg, ?_, by rw [List.length_append]; exact hroom, hm, ?_, ?_⟩, setCells_below g hg _ _ _⟩
    · exact Nat.lt_of_lt_of_le hgl (setCells_size g _ _ w)
    · intro j x hj
      by_cases hl : j < xs.length
      · rw [World.cell?_setCells_out g _ _ w ⟨g, j, none⟩ (fun _ _ => Or.inl hl)]
        exact hx j x (by rwa [List.getElem?_append_left hl] at hj)
      · rw [List.getElem?_append_right (by omega)] at hj
        have hj2 : j - xs.length < ys.length := (List.getElem?_eq_some_iff.1 hj).1
        have := World.cell?_setCells_in g (ys.map byt) xs.length w (fun a ha => (hs _ (by omega) (by omega)).1) (j - xs.length) (by omega)
        rw [show xs.length + (j - xs.length) = j by omega] at this
        rw [this]
        have h2 := (List.getElem?_eq_some_iff.1 hj).2
        simp [h2]
    · intro j h1 h2
      rw [List.length_append] at h1
      rw [World.frozen?_setCells]
      exact ⟨World.isSome_setCells g _ _ w _ (hs j (by omega) h2).1, (hs j (by omega) h2).2⟩
  · have holds : ∀ j u, (xs.map byt)[j]? = some u → w.cell? ((⟨g, 0, none⟩ : Addr).add j) = some u := by
      intro j u hj
      rw [Addr.add_mid, Nat.zero_add]
      rw [List.getElem?_map] at hj
      cases hq : xs[j]? with
      | none => rw [hq] at hj; cases hj
      | some y => rw [hq] at hj; have hj := Option.some.inj hj; subst hj; exact hx j y hq
    have hrun := run_append_grow (P := Tryd.prog) w 39 ty 5 i0 (.int .u8 0) Tryd.underlying39 hi hz0 ⟨g, 0, none⟩ xs.length cap (xs.map byt) (by rw [hz1]; simp) holds ⟨g2, o2, none⟩ ys.length c (ys.map byt) (by rw [hz1]; simp) hnews (by omega) (by omega) (growslice_fits (by omega) (by rw [hz2]; omega))
    have hge := grownCap_ge w (xs.length + ys.length) cap 5
    have hle := grownCap_le_maxLen w (xs.length + ys.length) cap 5 (by unfold maxLen; omega)
    generalize grownCap w (xs.length + ys.length) cap 5 = C at *
    rw [zeroCells_byt] at hrun
    have hk := Whole.here w.drew 5 ((xs.map byt).toArray ++ (ys.map byt).toArray ++ ((List.replicate (C - (xs.length + ys.length)) (0 : B8)).map byt).toArray)
    refine ⟨_, _, hrun, ⟨w.heap.size, C, by rw [List.length_append], hbase, by simp, by rw [List.length_append]; exact hge, hle, ?_, ?_⟩, ((Below.refl _ _).drew).alloc hbase _⟩
    · intro j x hj
      have hjl : j < xs.length + ys.length := by have := (List.getElem?_eq_some_iff.1 hj).1; rwa [List.length_append] at this
      refine (hk.cell j).trans ?_
      rw [Array.getElem?_append_left (by simpa using hjl), List.append_toArray, List.getElem?_toArray, ← List.map_append, List.getElem?_map, hj]
      rfl
    · intro j h1 h2
      rw [List.length_append] at h1
      refine ⟨?_, hk.frozen j⟩
      have e := hk.cell j
      have e2 : (((xs.map byt).toArray ++ (ys.map byt).toArray ++ ((List.replicate (C - (xs.length + ys.length)) (0 : B8)).map byt).toArray)[j]?).isSome = true := by
        rw [Array.getElem?_eq_getElem (by simp; omega)]
        rfl
      show (World.cell? (w.drew.alloc _) ⟨w.drew.heap.size, j, none⟩).isSome = true
      rw [e]
      exact e2

theorem run_str_bytes (s : ByteArray) (hs : s.size ≤ 1000000) (w : World) :
    ∃ v' w', (convert 9 39 (.string s)).run Tryd.prog w = .ok v' w' ∧ OwnM w' w.heap.size v' (sbytes s) ∧ Below w.heap.size w w' := by
  have hrun := run_bytes_of_string (P := Tryd.prog) w 9 39 5 s Tryd.underlying9 Tryd.underlying39 Tryd.underlying5
  have hge := grownCap_ge w s.size 0 5
  have hle := grownCap_le_maxLen w s.size 0 5 (by unfold maxLen; omega)
  generalize grownCap w s.size 0 5 = C at *
  have hsz : s.data.size = s.size := rfl
  have hrow : (bytesRow s C).size = C := by simp [bytesRow]; omega
  refine ⟨_, _, hrun, ⟨w.heap.size, C, by rw [sbytes_length], Nat.le_refl _, by simp, by rw [sbytes_length]; exact hge, hle, ?_, ?_⟩, ((Below.refl _ _).drew).alloc (Nat.le_refl _) _⟩
  · intro j x hj
    show World.cell? (w.drew.alloc _) ⟨w.drew.heap.size, j, none⟩ = _
    rw [World.cell?_alloc_mark]
    unfold sbytes at hj
    rw [List.getElem?_map] at hj
    cases hq : s.data.toList[j]? with
    | none => rw [hq] at hj; cases hj
    | some y =>
      rw [hq] at hj
      have hj := Option.some.inj hj
      subst hj
      have h1 : s.data[j]? = some y := by simpa using hq
      have hjl : j < s.data.size := by
        rcases Nat.lt_or_ge j s.data.size with hl | hl
        · exact hl
        · rw [Array.getElem?_eq_none hl] at h1; cases h1
      unfold bytesRow
      rw [Array.getElem?_append_left (by simpa using hjl), Array.getElem?_map, h1, byt]
      unfold bv
      rfl
  · intro j h1 h2
    constructor
    · show (World.cell? (w.drew.alloc _) ⟨w.drew.heap.size, j, none⟩).isSome = true
      rw [World.cell?_alloc_mark, Array.getElem?_eq_getElem (by omega)]
      rfl
    · show World.frozen? (w.drew.alloc _) ⟨w.drew.heap.size, j, none⟩ = false
      rw [World.frozen?_alloc_mark, hrow]
      simp
      omega
theorem OwnM.mono {w : World} {base base' : Nat} {v : Value} {xs : List B8} (h : OwnM w base v xs) (hb : base' ≤ base) : OwnM w base' v xs := by
  obtain ⟨g, cap, hv, hg, r⟩ := h
  exact ⟨g, cap, hv, by omega, r⟩
abbrev strRow (s : ByteArray) (W : World) : Array Value := bytesRow s (grownCap W s.size 0 5)
theorem step_append_mark {w : World} {ops : Array Oper} {o : Oper} {a : Act} {K : Act → World → Prop} {R : Exit → Act → World → Prop} {E : Prop} (hw : Region.wanted o (yielded ops a.tmps) = true) (s x : Operand)
    (ho : o.op = .call { callee := .builtin .append, args := #[s, x], argTypes := #[39, 39] })
    (base : Nat) (v : Value) (xs : List B8) (hs : a.eval s = v) (hown : OwnM w base v xs)
    (Q : Nat → Prop) (v2 : Value) (ys : List B8) (hx : a.eval x = v2) (hr : Bytes w Q v2 ys) (h0 : 0 < ys.length) (h47 : xs.length + ys.length ≤ 1000000) (hbase : base ≤ w.heap.size)
    (h : ∀ v' w', OwnM w' base v' (xs ++ ys) → Below base w w' → K (a.put o.dst v') w') :
    if Region.wanted o (yielded ops a.tmps) = true then Oper.wp Tryd.prog o a w K R else E := by
  rw [if_pos hw]
  obtain ⟨v', w', hrun, h1, h2⟩ := run_append_mark o.type base v xs hown Q v2 ys hr h0 h47 hbase
  unfold Oper.wp
  simp [execOp, ho, resolve, invoke, builtin, hs, hx, hrun, Result.andThen]
  exact h v' w' h1 h2
theorem wpList_append_mark {w : World} {ops : Array Oper} {rest : List Oper} {o : Oper} {a : Act} {R : Exit → Act → World → Prop} (hgd : o.guard = none) (s x : Operand)
    (ho : o.op = .call { callee := .builtin .append, args := #[s, x], argTypes := #[39, 39] })
    (base : Nat) (v : Value) (xs : List B8) (hs : a.eval s = v) (hown : OwnM w base v xs)
    (Q : Nat → Prop) (v2 : Value) (ys : List B8) (hx : a.eval x = v2) (hr : Bytes w Q v2 ys) (h0 : 0 < ys.length) (h47 : xs.length + ys.length ≤ 1000000) (hbase : base ≤ w.heap.size)
    (h : ∀ v' w', OwnM w' base v' (xs ++ ys) → Below base w w' → wpList Tryd.prog ops R rest (a.put o.dst v') w') : wpList Tryd.prog ops R (o :: rest) a w := by
  obtain ⟨v', w', hrun, h1, h2⟩ := run_append_mark o.type base v xs hown Q v2 ys hr h0 h47 hbase
  refine wpList_plain hgd fun K hK => ?_
  unfold Oper.wp
  simp [execOp, ho, resolve, invoke, builtin, hs, hx, hrun, Result.andThen]
  exact hK _ _ (h v' w' h1 h2)
end Go.Proofs.YteekdhcffiaaaaaDoor
namespace Go.Proofs.YteekdhcffiaaaaaDoor
open Go Go.RowKit Sh Leaf

theorem run_str_of {P : Program} {w : World} {Q : Nat → Prop} (src dst e : TypeId) (hs : P.underlying src = some (.slice e)) (he : P.underlying e = some (.int .u8)) (hd : P.underlying dst = some .string)
    {v : Value} {l : List B8} (hr : Bytes w Q v l) : (convert src dst v).run P w = .ok (.string (sof l)) w := by
  obtain ⟨A, c, rfl, h1, h2, h3, h4⟩ := hr
  cases A with
  | none =>
    have h0 := h3 rfl
    have hl : l = [] := List.eq_nil_of_length_eq_zero (by omega)
    subst hl
    rw [run_convert_bytes_string w src dst e none _ _ hs he hd]
    have e0 : sof [] = ByteArray.empty := by unfold sof; rfl
    rw [e0]
    rfl
  | some ad =>
    have := run_convert_bytes_back (P := P) w src dst e ad c (l.map UInt8.ofBitVec) hs he hd (by
      intro j hj
      rw [List.length_map] at hj
      obtain ⟨g, o, hA, _, hcell⟩ := h4 (by omega)
      obtain rfl := Option.some.inj hA
      rw [Addr.add_mid, hcell j l[j] (List.getElem?_eq_getElem hj)]
      simp only [List.getElem_map, byt]
      unfold bv
      rfl)
    rw [List.length_map] at this
    rw [this]
    unfold sof
    rfl
theorem conv_sof {w : World} {Q : Nat → Prop} {v : Value} {l : List B8} (hr : Bytes w Q v l) : (convert 39 9 v).run Tryd.prog w = .ok (.string (sof l)) w :=
  run_str_of 39 9 5 Tryd.underlying39 Tryd.underlying5 Tryd.underlying9 hr
end Go.Proofs.YteekdhcffiaaaaaDoor
namespace Go.Proofs.YteekdhcffiaaaaaDoor
open Go Go.RowKit Sh Leaf

def LabOK (s : ByteArray) : Prop := 1 ≤ s.size ∧ s.size ≤ 16 ∧ ∀ j (h : j < s.size), 97 ≤ s[j].toNat ∧ s[j].toNat ≤ 122
instance (s : ByteArray) : Decidable (LabOK s) := by unfold LabOK; infer_instance

set_option maxRecDepth 20000 in
set_option maxHeartbeats 1000000 in
theorem ref_name (s : ByteArray) (hs : s.size ≤ 1000000) (w : World) :
    Calls Tryd.prog 60 #[.string s] w fun e w' => e = .returned (.bool (decide (LabOK s))) ∧ w = w' := by
  by_cases h1 : s.size < 1
  · have hd : decide (LabOK s) = false := decide_eq_false fun h => by have := h.1; omega
    go_enter Tryd.func60, Tryd.ntmps60
    go_wp2
    go_ret
    exact ⟨by first | rfl | (rw [hd]; rfl), rfl⟩
  by_cases h2 : 16 < s.size
  · have hd : decide (LabOK s) = false := decide_eq_false fun h => by have := h.2.1; omega
    go_enter Tryd.func60, Tryd.ntmps60
    go_wp2
    go_ret
    exact ⟨by first | rfl | (rw [hd]; rfl), rfl⟩
  go_enter Tryd.func60, Tryd.ntmps60
  go_wp2
  go_loopw [3] (fun i wr => ∃ k : Nat, k ≤ s.size ∧ i = .int .i64 k ∧ (∀ j (h : j < s.size), j < k → 97 ≤ s[j].toNat ∧ s[j].toNat ≤ 122) ∧ w = wr) (fun i _ => s.size - (intOf i).toNat)
  case atStart => exact ⟨0, by omega, rfl, fun j _ h => by omega, rfl⟩
  case round =>
    obtain ⟨k, hk, rfl, hall, rfl⟩ := hrel
    have HA := Lib.hid hall
    clear hall
    by_cases hlt : k < s.size
    · by_cases hlo : 97 ≤ s[k].toNat
      · by_cases hhi : s[k].toNat ≤ 122
        · have h5 : (97 : Int) ≤ (s[k].toNat : Int) := by omega
          have h6 : (s[k].toNat : Int) ≤ 122 := by omega
          have hn : ∀ j (h : j < s.size), j < k + 1 → 97 ≤ s[j].toNat ∧ s[j].toNat ≤ 122 := fun j h hj => by
            by_cases e : j = k
            · subst e; exact ⟨hlo, hhi⟩
            · exact HA.out j h (by omega)
          have HN := Lib.hid hn
          clear hn hlo hhi
          go_wp2
          go_roundw
          case rel => exact ⟨k + 1, by omega, by go_num, HN.out, by first | rfl | trivial⟩
          case measure => simp [intOf]; omega
        · have h5 : (97 : Int) ≤ (s[k].toNat : Int) := by omega
          have h6 : (122 : Int) < (s[k].toNat : Int) := by omega
          have hd : decide (LabOK s) = false := decide_eq_false fun h => hhi (h.2.2 k hlt).2
          have HD := Lib.hid hd
          clear hd hlo hhi
          go_wp2
          go_ret
          exact ⟨by rw [HD.out]; rfl, rfl⟩
      · have h5 : (s[k].toNat : Int) < 97 := by omega
        have hd : decide (LabOK s) = false := decide_eq_false fun h => hlo (h.2.2 k hlt).1
        have HD := Lib.hid hd
        clear hd hlo
        go_wp2
        go_ret
        exact ⟨by rw [HD.out]; rfl, rfl⟩
    · have hd : decide (LabOK s) = true := decide_eq_true ⟨by omega, by omega, fun j h => HA.out j h (by omega)⟩
      have HD := Lib.hid hd
      clear hd
      go_wp2
      go_ret
      exact ⟨by rw [HD.out]; rfl, rfl⟩
end Go.Proofs.YteekdhcffiaaaaaDoor
namespace Go.Proofs.YteekdhcffiaaaaaDoor
open Go Go.RowKit Sh Leaf

set_option maxRecDepth 20000 in
set_option maxHeartbeats 1000000 in
theorem rword (s : ByteArray) (hs : s.size ≤ 1000) (v : Value) (b : List B8) (Q : Nat → Prop) (w : World) (hv : Bytes w Q v b) (h0 : 0 < b.length) (hbl : b.length ≤ 900000) :
    Calls Tryd.prog 36 #[.string s, v] w fun e w' => ∃ v', e = .returned v' ∧ OwnM w' w.heap.size v' (sbytes s ++ b) ∧ Below w.heap.size w w' := by
  obtain ⟨v0, w0, hc, hown, hb⟩ := run_str_bytes s (by omega) w
  have hsl := sbytes_length s
  have hv0 := hv.below hb (Nat.le_refl _)
  have hs0 := hb.size
  obtain ⟨A, c, rfl, -⟩ := id hv
  go_enter Tryd.func36, Tryd.ntmps36
  go_wp2_with (at_builtin; refine wpList_append_mark rfl _ _ rfl w.heap.size v0 (sbytes s) rfl hown _ _ b rfl hv0 h0 (by omega) (by omega) ?_; intro v1 w1 hown1 hb1)
  have HO := Lib.hid hown1
  have HB := Lib.hid (hb.trans hb1)
  clear hown hown1 hb hb1 hc hv0 hs0 hv
  go_wp2_with fail
  go_ret
  exact ⟨_, rfl, HO.out, HB.out⟩
end Go.Proofs.YteekdhcffiaaaaaDoor
namespace Go.Proofs.YteekdhcffiaaaaaDoor
open Go Go.RowKit Sh Leaf

set_option maxHeartbeats 1000000 in
theorem eight (n : Nat) (w : World) : Calls Tryd.prog 33 #[.int .u64 (n : Int)] w fun e w' => ∃ v', e = .returned v' ∧ Own w' w.heap.size v' (be8 n) ∧ Below w.heap.size w w' := by
  go_enter Tryd.func33, Tryd.ntmps33
  go_wp2
  go_loopw [3, 4] (fun b i wr => ∃ k : Nat, k ≤ 8 ∧ i = .int .i64 (56 - 8 * (k : Int)) ∧ Own wr w.heap.size b ((be8 n).take k) ∧ Below w.heap.size w wr) (fun _ i _ => (intOf i + 8).toNat)
  case atStart => exact ⟨0, by omega, rfl, own_nil _ _, Below.refl _ _⟩
  case round =>
    obtain ⟨k, hk, rfl, hown, hb⟩ := hrel
    by_cases hlt : k < 8
    · have hl : ((be8 n).take k).length ≤ 8 := by rw [List.length_take, be8_length]; omega
      have hbs := hb.size
      have hz : (n : Int) / 2 ^ (56 - 8 * k) % 256 = bv (BitVec.ofNat 8 (n / 2 ^ (56 - 8 * k))) := by rw [bv_ofNat]; simp
      have i0 : (0 : Int) ≤ 56 - 8 * (k : Int) := by omega
      have HZ := Lib.hid hz
      have HT := Lib.hid (be8_take_succ n hlt)
      clear hz
      go_wp2_with (at_builtin; go_must (refine wpList_append_bytes rfl _ _ rfl w.heap.size _ ((be8 n).take k) rfl (hown.alloc _) _ (.slice (some ⟨wr.heap.size, 0, none⟩) 1 1) _ rfl (bytes_one wr _ _ HZ.out) (by simp only [List.length_singleton]; omega) (by simp; omega) ?_; intro v' w' h1 h2))
      go_roundw
      case rel =>
        refine ⟨k + 1, by omega, by go_num, ?_, (hb.alloc (by omega) _).trans h2⟩
        rw [HT.out]; exact h1
      case measure => simp [intOf]; omega
    · have ek : (be8 n).take k = be8 n := List.take_of_length_le (by rw [be8_length]; omega)
      rw [ek] at hown
      clear ek
      go_wp2
      go_ret
      exact ⟨_, rfl, hown, hb⟩
end Go.Proofs.YteekdhcffiaaaaaDoor
namespace Go.Proofs.YteekdhcffiaaaaaDoor
open Go Go.RowKit Sh Leaf

set_option maxRecDepth 20000 in
set_option maxHeartbeats 1000000 in
theorem bequal (A B : Option Addr) (c d : Nat) (a b : List B8) (Q Q' : Nat → Prop) (w : World) (ha : Bytes w Q (.slice A a.length c) a) (hb : Bytes w Q' (.slice B b.length d) b) :
    Calls Tryd.prog 64 #[.slice A a.length c, .slice B b.length d] w fun e w' => e = .returned (.bool (decide (a = b))) ∧ w' = w := by
  have h1 := conv_sof ha
  have h2 := conv_sof hb
  have hs := sof_beq a b
  go_enter Tryd.func64, Tryd.ntmps64
  go_wp2_with fail
  go_ret
  exact ⟨rfl, rfl⟩
end Go.Proofs.YteekdhcffiaaaaaDoor
