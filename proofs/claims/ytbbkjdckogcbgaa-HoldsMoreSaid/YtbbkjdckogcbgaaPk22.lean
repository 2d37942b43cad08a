/-
  A row of predicates of the call's own; append to it; the deck: Predicates.
-/
import Derived.Test.YtbbkjdckogcbgaaPk11
import Derived.Test.YtbbkjdckogcbgaaPk15
namespace Go.Proofs.Ytbbkjdckogcbgaa
open Go Go.RowKit Sh Leaf

/-- The slice v has the predicates l at the head of a block of the call's own (from 'base' on), or is nil. -/
abbrev OwnP (w : World) (base : Nat) (v : Value) (l : List Prd) : Prop := w.ownsRow base 35 6 v l.length (pcs l)
theorem ownp_nil (w : World) (base : Nat) : OwnP w base (.slice none 0 0) [] := ⟨by simp [pcs], .inl ⟨rfl, by simp⟩⟩
theorem OwnP.prds {w : World} {base : Nat} {v : Value} {l : List Prd} (h : OwnP w base v l) (hl : ∀ p ∈ l, pbd p) : ∃ A c, v = .slice A l.length c ∧ Prds w (fun g => base ≤ g) A c l := by
  rcases h.2 with ⟨rfl, h0⟩ | ⟨g, cap, cur, rfl, hg, hh, hc, hm, hs, ht⟩
  · have : l = [] := List.eq_nil_of_length_eq_zero h0
    subst this
    exact ⟨none, 0, rfl, Prds.nil _ _⟩
  · have hlt : g < w.heap.size := by
      rcases Nat.lt_or_ge g w.heap.size with h | h
      · exact h
      · rw [Array.getElem?_eq_none h] at hh; cases hh
    refine ⟨_, cap, rfl, hc, hm, fun h => (by cases h), hl, fun _ => ⟨g, 0, rfl, hg, hlt, fun j v hj => ?_⟩⟩
    rw [Nat.zero_add, cell_of_row w g j cur _ _ hh]
    rw [← ht, List.getElem?_take] at hj
    split at hj
    · simpa using hj
    · cases hj
theorem own_oth {w w' : World} {g base n size : Nat} {e : TypeId} {v : Value} {xs : List Value} (h : w.ownsRow base e size v n xs) (hg : g < base) (ho : Oth g w w') : w'.ownsRow base e size v n xs := by
  refine ⟨h.1, ?_⟩
  rcases h.2 with h2 | ⟨b, cap, cur, hv, hb, hh, r⟩
  · exact .inl h2
  · exact .inr ⟨b, cap, cur, hv, hb, ho b e cur (by omega) hh, r⟩
theorem prdInfo : (Try.prog.info? 35).map (fun i => (i.zero, i.size, i.bytes)) = some (some (.agg #[.int .i64 0, .int .u64 0, .int .i64 0, .int .i64 0, .string { data := #[] }, .int .i64 0]), 6, 56) := by kernel_rfl
theorem pcl_one (p : Prd) : ∀ v ∈ pcl p, v.oneCell' = true := by
  intro v hv
  simp [pcl] at hv
  rcases hv with rfl | rfl | rfl | rfl | rfl | rfl <;> rfl
theorem pcs_one (l : List Prd) : ∀ v ∈ pcs l, v.oneCell' = true := by
  intro v hv
  obtain ⟨p, _, h⟩ := List.mem_flatMap.1 hv
  exact pcl_one p v h
/-- append(own, predicates...): what the source reads as is given by its cells. -/
theorem wpList_append_prds {w : World} {ops : Array Oper} {rest : List Oper} {o : Oper} {a : Act} {R : Exit → Act → World → Prop} (hgd : o.guard = none) (s x : Operand)
    (ho : o.op = .call { callee := .builtin .append, args := #[s, x], argTypes := #[39, 39] })
    (base : Nat) (v : Value) (l : List Prd) (hs : a.eval s = v) (hown : OwnP w base v l) (g o2 c : Nat) (ys : List Prd) (hx : a.eval x = .slice (some ⟨g, o2, none⟩) ys.length c) (hg : w.rangeAt g o2 (pcs ys))
    (h47 : l.length + ys.length ≤ 1000000000) (hbase : base ≤ w.heap.size)
    (h : ∀ v' w', OwnP w' base v' (l ++ ys) → Below base w w' → wpList Try.prog ops R rest (a.put o.dst v') w') : wpList Try.prog ops R (o :: rest) a w := by
  obtain ⟨i0, hi, hz0, hz1, hz2⟩ := info_parts prdInfo
  refine wpList_append_own w hgd s x 39 ho base 35 i0 (.agg #[.int .i64 0, .int .u64 0, .int .i64 0, .int .i64 0, .string { data := #[] }, .int .i64 0]) 6 56 Try.underlying39 hi hz0 hz1 hz2 rfl (by decide) v l.length (pcs l) hs hown ⟨g, o2, none⟩ ys.length c (pcs ys) hx (pcs_length ys) (fun j u hj => by rw [Addr.add_mid]; exact hg j u hj) (pcs_one ys) (by unfold maxLen; omega) (by omega) hbase fun v' w' h1 h2 _ => ?_
  refine h v' w' ?_ ((Below.refl _ _).grown h2 hbase (fun k hk => (hown.lt k hk).1))
  show w'.ownsRow base _ 6 v' (l ++ ys).length (pcs (l ++ ys))
  rw [List.length_append, pcs_append]
  exact h1
theorem range_one {w : World} {g : Nat} {p : Prd} (h : PRow w g p.kind p.mask p.lo p.hi p.name p.num) : w.rangeAt g 0 (pcs [p]) := fun j v hj => by
  rw [Nat.zero_add, h.cell]
  have e : pcs [p] = pcl p := by simp [pcs]
  rw [e] at hj
  rw [← hj]
  simp [pcl]
set_option maxRecDepth 100000 in
set_option maxHeartbeats 1000000 in
theorem dpreds (n : Nat) (hn : n ≤ 1000) (g : Nat) (w : World) (h : Deck g w) :
    Calls Try.prog 17 #[.pointer (some ⟨g, 0, none⟩), .int .i64 (n : Int), .bool true] w fun e w' => ∃ (v : Value) (l : List Prd), e = .returned v ∧ l.length ≤ n ∧ (∀ p ∈ l, pok p ∧ pbd p) ∧ OwnP w' w.heap.size v l ∧ Turn g w w' := by
  have hgl := h.lt
  have hw1 : IntKind.i64.wrap ((n : Int) + 1) = (n : Int) + 1 := by rw [IntKind.wrap_i64]; omega
  have hnx := fun W hW => dnext ((n : Int) + 1) (by omega) (by omega) g W hW
  go_enter Try.func17, Try.ntmps17
  go_wp2_with fail
  refine (hnx _ h).mono ?_
  rintro e w1 ⟨i, hi, rfl, ht1⟩
  have HT1 := Lib.hid ht1
  have hi' : i ≤ n := by omega
  clear ht1 hnx hw1
  go_wp2
  go_loopw [7, 8] (fun v kk wr => ∃ (l : List Prd) (k : Nat), kk = .int .i64 k ∧ l.length + k ≤ n ∧ (∀ p ∈ l, pok p ∧ pbd p) ∧ OwnP wr w.heap.size v l ∧ Turn g w wr) (fun _ k _ => (intOf k).toNat)
  case atStart => exact ⟨[], i, rfl, by simp; omega, by simp, ownp_nil _ _, HT1.out⟩
  case round =>
    obtain ⟨l, k, rfl, hk, hl, hown, ht⟩ := hrel
    have hd := ht.1
    have HL := Lib.hid hl
    have HT := Lib.hid ht
    have hsz := ht.2.1.size
    clear hl ht HT1
    by_cases h0 : 0 < k
    · have hk1 : IntKind.i64.wrap ((k : Int) - 1) = ((k - 1 : Nat) : Int) := by rw [IntKind.wrap_i64]; omega
      have hk0 : (0 : Int) < (k : Int) := by omega
      have HO := Lib.hid hown
      clear hown
      go_wp2_with fail
      refine (dpred g _ hd).mono ?_
      rintro e w2 ⟨p, hp, hpm, rfl, ht2⟩
      have HT2 := Lib.hid (HT.out.trans ht2)
      have HO2 := Lib.hid (own_oth HO.out hgl ht2.2.2)
      have hb2 := (HT2.out).2.1.size
      have HP := Lib.hid (And.intro hp (show pbd p from ⟨hpm, by have := pok_name_le hp; omega⟩))
      have hll : l.length ≤ 1000 := by omega
      rw [pv_row]
      have HR : Hid (w2.alloc (.cells (prow p.kind p.mask p.lo p.hi p.name p.num) 35) |>.rangeAt w2.heap.size 0 (pcs [p])) := Lib.hid (range_one (Whole.here w2 _ _))
      clear ht2 hd hp hpm HO HT
      go_wp2_with (at_builtin; go_must (refine wpList_append_prds rfl _ _ rfl w.heap.size _ l rfl (HO2.out.alloc _) w2.heap.size 0 _ [p] rfl HR.out (by simp; omega) (by simp; omega) ?_; intro v' w' h1 h2))
      go_roundw
      case rel =>
        refine ⟨l ++ [p], k - 1, by go_num, by simp; omega, fun q hq => ?_, h1, (HT2.out).from hgl (((Below.refl w.heap.size w2).alloc hb2 _).trans h2)⟩
        rcases List.mem_append.1 hq with hq | hq
        · exact HL.out q hq
        · rw [List.mem_singleton.1 hq]; exact HP.out
      case measure => simp [intOf]; omega
    · have hk0 : (k : Int) ≤ 0 := by omega
      have HO := Lib.hid hown
      clear hown hd
      go_wp2
      go_ret
      exact ⟨_, l, rfl, by omega, HL.out, HO.out, HT.out⟩
end Go.Proofs.Ytbbkjdckogcbgaa
