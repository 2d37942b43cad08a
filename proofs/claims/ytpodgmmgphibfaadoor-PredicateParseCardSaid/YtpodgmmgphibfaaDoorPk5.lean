/-
  What the library's functions say, in the words of layer 6: digits, cuts, joins; the library's variables.
  The library's functions by their contracts, in plain words: Itoa, Atoi (as parseNumber uses them), Cut, TrailingZeros64, Clone, Join.
  Package predicate: parseNumber, parseSpan.
  parseMask in plain words: which mask a text of numbers is.
-/
import Derived.Test.YtpodgmmgphibfaaDoorPk3
import Derived.Test.YtpodgmmgphibfaaDoorShelf
import Derived.Lib.AppendIntMem
import Derived.Lib.AtoiErrMem
import Derived.Test.YtpodgmmgphibfaaDoorPk0
namespace Go.Proofs.YtpodgmmgphibfaaDoor
open Go Go.RowKit Sh Leaf

/-- The bytes of a string as the library has them. -/
abbrev u8l (l : List B8) : List UInt8 := l.map UInt8.ofBitVec
theorem sof_data (l : List B8) : (sof l).data.toList = u8l l := by unfold sof; simp
theorem sof_u8 (l : List B8) : (⟨(u8l l).toArray⟩ : ByteArray) = sof l := by unfold sof; rfl
theorem u8l_inj {a b : List B8} (h : u8l a = u8l b) : a = b := by
  have := congrArg (List.map UInt8.toBitVec) h
  simpa [List.map_map, Function.comp_def] using this
theorem decDigits_dcm (n : Nat) : Lib.decDigits n = u8l (dcm n) := by
  induction n using Nat.strongRecOn with
  | ind n ih =>
    rw [Lib.decDigits, dcm]
    by_cases h : n < 10
    · rw [dif_pos h, if_pos h]; rfl
    · rw [dif_neg h, if_neg h, ih (n / 10) (by omega)]; unfold u8l; rw [List.map_append]; rfl
theorem join_joi : ∀ ls : List (List B8), Lib.join (ls.map u8l) [44] = u8l (joi 44 ls)
  | [] => rfl
  | [a] => by rw [List.map_singleton, Lib.join_one]; rfl
  | a :: b :: t => by
    have ih := join_joi (b :: t)
    rw [joi_cons a (by simp)]
    have e : u8l (a ++ 44 :: joi 44 (b :: t)) = u8l a ++ 44 :: u8l (joi 44 (b :: t)) := by unfold u8l; rw [List.map_append, List.map_cons]; rfl
    rw [e, ← ih]
    simp [Lib.join, List.intercalate]
theorem indexByte_at (c : B8) : ∀ (a b : List B8), c ∉ a → Lib.indexByte (u8l (a ++ c :: b)) (UInt8.ofBitVec c) = a.length
  | [], b, _ => by simp [Lib.indexByte]
  | x :: a, b, h => by
    have hx : ¬ x = c := fun e => h (by simp [e])
    have ih := indexByte_at c a b (fun hm => h (List.mem_cons_of_mem _ hm))
    have hne : (UInt8.ofBitVec x == UInt8.ofBitVec c) = false := by
      rw [beq_eq_false_iff_ne]
      intro e
      exact hx (by have := congrArg UInt8.toBitVec e; simpa using this)
    have e1 : u8l (x :: a ++ c :: b) = UInt8.ofBitVec x :: u8l (a ++ c :: b) := rfl
    rw [e1, Lib.indexByte, hne, ih]
    have h2 : ((a.length : Int) == -1) = false := by rw [beq_eq_false_iff_ne]; omega
    rw [h2]
    simp
theorem indexByte_none (c : B8) : ∀ (l : List B8), c ∉ l → Lib.indexByte (u8l l) (UInt8.ofBitVec c) = -1
  | [], _ => rfl
  | x :: a, h => by
    have hx : ¬ x = c := fun e => h (by simp [e])
    have ih := indexByte_none c a (fun hm => h (List.mem_cons_of_mem _ hm))
    have hne : (UInt8.ofBitVec x == UInt8.ofBitVec c) = false := by
      rw [beq_eq_false_iff_ne]
      intro e
      exact hx (by have := congrArg UInt8.toBitVec e; simpa using this)
    have e1 : u8l (x :: a) = UInt8.ofBitVec x :: u8l a := rfl
    rw [e1, Lib.indexByte, hne, ih]
    rfl
theorem index_one_eq (l : List UInt8) (c : UInt8) : Lib.index l [c] = Lib.indexByte l c := by
  induction l with
  | nil => rfl
  | cons b l ih =>
    rw [Lib.index, Lib.indexByte, ih]
    have : [c].isPrefixOf (b :: l) = (b == c) := by
      simp [List.isPrefixOf]
      rw [Bool.beq_comm]
    rw [this]
theorem cut_cut1 (c : B8) (l : List B8) : Lib.cut (u8l l) [UInt8.ofBitVec c] = (u8l (cut1 c l).1, u8l (cut1 c l).2.1, (cut1 c l).2.2) := by
  unfold Lib.cut
  rw [index_one_eq]
  rcases cut1_cases c l with ⟨a, b, rfl, ha, e⟩ | ⟨hn, e⟩
  · rw [e, indexByte_at c a b ha, if_pos (by omega)]
    have e1 : u8l (a ++ c :: b) = u8l a ++ ([UInt8.ofBitVec c] ++ u8l b) := by unfold u8l; rw [List.map_append, List.map_cons]; rfl
    have e2 : (u8l a).length = a.length := by simp
    rw [e1, Int.toNat_natCast, ← e2, List.take_left, ← List.length_append, ← List.append_assoc, List.drop_left]
  · rw [e, indexByte_none c l hn, if_neg (by omega)]
    rfl
/-- The digits of a small number are read as it. -/
theorem parseUint10_digits : ∀ (l : List B8) (acc j : Nat), l.all isd = true → acc < 10 ^ j → j + l.length ≤ 18 → Lib.parseUint10 acc (u8l l) = .ok (l.foldl (fun a c => 10 * a + (c.toNat - 48)) acc)
  | [], acc, j, _, _, _ => rfl
  | c :: l, acc, j, hd, ha, hj => by
    rw [List.length_cons] at hj
    have hc : isd c = true := by rw [List.all_cons, Bool.and_eq_true] at hd; exact hd.1
    have hl : l.all isd = true := by rw [List.all_cons, Bool.and_eq_true] at hd; exact hd.2
    have hc2 := isd_iff.1 hc
    have hp : (10 : Nat) ^ j ≤ 10 ^ 17 := Nat.pow_le_pow_right (by omega) (by omega)
    have hn : 10 * acc + (c.toNat - 48) < 10 ^ (j + 1) := by rw [Nat.pow_succ]; omega
    have e1 : u8l (c :: l) = UInt8.ofBitVec c :: u8l l := rfl
    have e2 : (UInt8.ofBitVec c).toNat = c.toNat := rfl
    rw [e1, Lib.parseUint10, e2, if_pos hc2, if_neg (by omega), if_neg (by omega), Nat.mul_comm acc 10, parseUint10_digits l _ (j + 1) hl hn (by omega)]
    rfl
theorem atoi_dcm {n : Nat} (h : n < 10 ^ 17) : Lib.atoiAll (u8l (dcm n)) = .ok (n : Int) := by
  have hlen := dcm_len 16 n h
  have hd := dcm_isd n
  have hv := dval_dcm n
  have hp := parseUint10_digits (dcm n) 0 0 hd (by omega) (by omega)
  have e0 : (dcm n).foldl (fun a c => 10 * a + (c.toNat - 48)) 0 = n := hv
  rw [e0] at hp
  cases hq : dcm n with
  | nil => exact absurd hq (dcm_ne n)
  | cons c r =>
    rw [hq] at hd hp
    rw [List.all_cons, Bool.and_eq_true] at hd
    have hc := isd_iff.1 hd.1
    have e1 : u8l (c :: r) = UInt8.ofBitVec c :: u8l r := rfl
    rw [e1] at hp ⊢
    have e2 : (UInt8.ofBitVec c).toNat = c.toNat := rfl
    rw [Lib.atoiAll_plain _ _ (by rw [e2]; omega) (by rw [e2]; omega)]
    unfold Lib.parseMag
    rw [if_neg (by simp), hp]
    unfold Lib.signless
    simp
    omega

/-- The library's variables lie as its text lays them. -/
def Std (w : World) : Prop :=
  Lib.TabIs Tryd.prog w "internal/strconv.uint64pow10" .u64 Lib.pow10Tab ∧ TabAt 0 Lib.deBruijn64tab w ∧ (∃ m, w.cell? ⟨1, 0, none⟩ = some (.int .i64 m)) ∧
  (∃ tp p, w.var? Tryd.prog "strconv.ErrSyntax" = some #[.iface tp p]) ∧ ∃ tp p, w.var? Tryd.prog "strconv.ErrRange" = some #[.iface tp p]
theorem var_below {w w' : World} {name : String} {cs : Array Value} {B : Nat} (h : w.var? Tryd.prog name = some cs) (hb : Below B w w') (hB : w.heap.size ≤ B) : w'.var? Tryd.prog name = some cs := by
  unfold World.var? at h ⊢
  cases hg : Tryd.prog.globalNamed name with
  | none => rw [hg] at h; cases h
  | some g =>
    rw [hg] at h
    simp only [Option.bind_some] at h ⊢
    have hl : g < w.heap.size := by
      rcases Nat.lt_or_ge g w.heap.size with hl | hl
      · exact hl
      · rw [Array.getElem?_eq_none hl] at h; cases h
    rw [hb.block g (by omega)]
    exact h
theorem Std.below {w w' : World} {B : Nat} (h : Std w) (hb : Below B w w') (hB : w.heap.size ≤ B) : Std w' := by
  obtain ⟨h1, h2, ⟨m, h3⟩, ⟨t4, p4, h4⟩, t5, p5, h5⟩ := h
  have hc : ∀ (a : Addr) (v : Value), w.cell? a = some v → w'.cell? a = some v := fun a v e => (hb.cell (p := a) (by have := block_lt_of_cell e; omega)).trans e
  exact ⟨var_below h1 hb hB, fun j hj => hc _ _ (h2 j hj), ⟨m, hc _ _ h3⟩, ⟨t4, p4, var_below h4 hb hB⟩, t5, p5, var_below h5 hb hB⟩
end Go.Proofs.YtpodgmmgphibfaaDoor
namespace Go.Proofs.YtpodgmmgphibfaaDoor
open Go Go.RowKit Sh Leaf

/-- A number in decimal, with its sign. -/
@[irreducible] def itl (n : Int) : List B8 := (Lib.itoa n).map UInt8.toBitVec
theorem sof_itl (n : Int) : (⟨(Lib.itoa n).toArray⟩ : ByteArray) = sof (itl n) := by unfold sof itl; simp [List.map_map, Function.comp_def]
theorem itl_nat (n : Nat) : itl (n : Int) = dcm n := by
  unfold itl Lib.itoa
  rw [if_neg (by omega), Int.toNat_natCast, decDigits_dcm]
  simp [List.map_map, Function.comp_def]
theorem itl_pos {n : Int} (h : 0 ≤ n) : itl n = dcm n.toNat := by
  obtain ⟨k, rfl⟩ := Int.eq_ofNat_of_zero_le h
  rw [itl_nat, Int.toNat_natCast]
theorem itoa_z (n : Int) (h0 : -9223372036854775808 ≤ n) (h1 : n ≤ 9223372036854775807) (w : World) (hS : Std w) :
    Calls Tryd.prog 37 #[.int .i64 n] w fun e w' => e = .returned (.string (sof (itl n))) ∧ Below w.heap.size w w' := by
  refine (Tryd.strconv_Itoa n h0 h1 w hS.1).mono ?_
  rintro e w' ⟨rfl, k, os, rfl⟩
  exact ⟨by rw [sof_itl], Lib.below_grow _ w (Nat.le_refl _) k os⟩
theorem itoa_n (n : Nat) (h1 : n ≤ 9223372036854775807) (w : World) (hS : Std w) :
    Calls Tryd.prog 37 #[.int .i64 (n : Int)] w fun e w' => e = .returned (.string (sof (dcm n))) ∧ Below w.heap.size w w' := by
  have h := itoa_z (n : Int) (by omega) (by omega) w hS
  rw [itl_nat] at h
  exact h
/-- What strconv.Atoi returns: a number and whether there is no error. -/
theorem atoi_ (s : List B8) (hs : s.length ≤ 100000) (w : World) (hS : Std w) :
    Calls Tryd.prog 82 #[.string (sof s)] w fun e w' => ∃ (n : Int) (v : Value), e = .returned (.tuple #[.int .i64 n, v]) ∧ -9223372036854775808 ≤ n ∧ n ≤ 9223372036854775807 ∧
      ((v = .nilIface ∧ Lib.atoiAll (u8l s) = .ok n) ∨ ((∃ N, v = .iface 141 (.pointer (some ⟨N, 0, none⟩))) ∧ ∀ k, Lib.atoiAll (u8l s) ≠ .ok k)) ∧ Below w.heap.size w w' := by
  have hsz : (sof s).size ≤ 100000 := by rw [sof_size]; exact hs
  have hd := sof_data s
  cases hq : Lib.atoiAll (u8l s) with
  | ok v =>
    have hb := Lib.atoiAll_bounds hq
    refine (Tryd.strconv_Atoi_ok (sof s) (by omega) v (by rw [hd]; exact hq) w).mono ?_
    rintro e w' ⟨rfl, hw⟩
    refine ⟨v, _, rfl, hb.1, hb.2, .inl ⟨rfl, rfl⟩, ?_⟩
    rcases hw with rfl | ⟨t, rfl⟩
    · exact Below.refl _ _
    · exact Lib.bytesWorld_below _ _ _
  | «syntax» =>
    obtain ⟨tp, p, hv⟩ := hS.2.2.2.1
    refine (Tryd.strconv_Atoi_syntax_var (sof s) (by omega) (by rw [hd]; exact hq) tp p w hv).mono ?_
    rintro e w' ⟨N, rfl, _, _, hb⟩
    exact ⟨0, _, rfl, by omega, by omega, .inr ⟨⟨N, rfl⟩, fun k hk => by cases hk⟩, hb⟩
  | range =>
    obtain ⟨tp, p, hv⟩ := hS.2.2.2.2
    have hb2 := Lib.atoiSat_bounds (sof s).data.toList
    refine (Tryd.strconv_Atoi_range_var (sof s) (by omega) (by rw [hd]; exact hq) tp p w hv).mono ?_
    rintro e w' ⟨N, rfl, _, _, hb⟩
    exact ⟨_, _, rfl, hb2.1, hb2.2, .inr ⟨⟨N, rfl⟩, fun k hk => by cases hk⟩, hb⟩
/-- strings.Cut at one byte. -/
theorem cut_ (s : List B8) (c : B8) (sep : ByteArray) (hsep : sep = ⟨#[UInt8.ofBitVec c]⟩) (hs : s.length ≤ 100000) (w : World) (hS : Std w) :
    Calls Tryd.prog 40 #[.string (sof s), .string sep] w fun e w' => e = .returned (.tuple #[.string (sof (cut1 c s).1), .string (sof (cut1 c s).2.1), .bool (cut1 c s).2.2]) ∧ Below w.heap.size w w' := by
  subst hsep
  obtain ⟨m, hm⟩ := hS.2.2.1
  have h := Tryd.strings_Cut (sof s) ⟨#[UInt8.ofBitVec c]⟩ m w (by rw [sof_size]; omega) hm
  have e1 : Lib.cut (sof s).data.toList (⟨#[UInt8.ofBitVec c]⟩ : ByteArray).data.toList = (u8l (cut1 c s).1, u8l (cut1 c s).2.1, (cut1 c s).2.2) := by rw [sof_data]; exact cut_cut1 c s
  rw [e1] at h
  refine h.mono ?_
  rintro e w' ⟨rfl, n, rfl⟩
  exact ⟨by simp only [sof_u8], below_drewN (Below.refl _ _) n⟩
theorem tz64 (m : Nat) (hm : m < 18446744073709551616) (w : World) (hS : Std w) :
    Calls Tryd.prog 60 #[.int .u64 (m : Int)] w fun e w' => e = .returned (.int .i64 (Lib.ctz 64 m : Int)) ∧ w = w' := by
  refine (Any7.bits_TrailingZeros64 Tryd.lays7n29 m hm w (fun _ => hS.2.1)).mono ?_
  rintro e w' ⟨rfl, rfl⟩
  exact ⟨rfl, rfl⟩
theorem clone_ (s : List B8) (hs : s.length ≤ 100000) (w : World) :
    Calls Tryd.prog 67 #[.string (sof s)] w fun e w' => e = .returned (.string (sof s)) ∧ Below w.heap.size w w' :=
  Tryd.stringslite_Clone (sof s) w (by rw [sof_size]; omega)

/-! ### A row of strings of the call's own -/
abbrev OwnS (w : World) (base : Nat) (v : Value) (ls : List (List B8)) : Prop := w.ownsRow base 9 1 v (ls.map fun l => Value.string (sof l)).length (ls.map fun l => Value.string (sof l))
theorem ownS_nil (w : World) (base : Nat) : OwnS w base (.slice none 0 0) [] := ⟨by simp, .inl ⟨rfl, by simp⟩⟩
theorem stringInfo : (Tryd.prog.info? 9).map (fun i => (i.zero, i.size, i.bytes)) = some (some (.string ⟨#[]⟩), 1, 16) := by kernel_rfl
theorem run_append_str {w : World} (ty : TypeId) (base : Nat) (v : Value) (us : List Value) (hown : w.ownsRow base 9 1 v us.length us)
    (g c : Nat) (u : Value) (hcell : w.cell? ⟨g, 0, none⟩ = some u) (hone : u.oneCell' = true) (h47 : us.length ≤ 900000000) (hbase : base ≤ w.heap.size) :
    ∃ v' w', (Builtin.append_ #[38, 38] ty #[v, .slice (some ⟨g, 0, none⟩) 1 c]).run Tryd.prog w = .ok v' w' ∧ w'.ownsRow base 9 1 v' (us ++ [u]).length (us ++ [u]) ∧ Below base w w' := by
  obtain ⟨i0, hi, hz0, hz1, hz2⟩ := info_parts stringInfo
  obtain ⟨v', w', hrun, h1, h2⟩ := run_append_own w base 38 ty 9 i0 (.string ⟨#[]⟩) 1 16 Tryd.underlying38 hi hz0 hz1 hz2 rfl (by decide) v us.length us hown ⟨g, 0, none⟩ 1 c [u] (by simp)
    (fun j y hj => by
      match j, hj with
      | 0, hj => simp at hj; subst hj; rw [Addr.add_mid]; exact hcell
      | j + 1, hj => simp at hj) (fun y hy => by simp at hy; subst hy; exact hone) (by unfold maxLen; simp; omega) (by omega) hbase
  exact ⟨v', w', hrun, by rw [List.length_append]; exact h1, (Below.refl _ _).grown h2.1 hbase (fun k hk => (hown.lt k hk).1)⟩
theorem wpList_append_str {w : World} {ops : Array Oper} {rest : List Oper} {o : Oper} {a : Act} {R : Exit → Act → World → Prop} (hw : Region.wanted o (yielded ops a.tmps) = true) (s x : Operand)
    (ho : o.op = .call { callee := .builtin .append, args := #[s, x], argTypes := #[38, 38] })
    (base : Nat) (v : Value) (us : List Value) (hs : a.eval s = v) (hown : w.ownsRow base 9 1 v us.length us) (u : Value) (hu : u.oneCell' = true)
    (g c : Nat) (hx : a.eval x = .slice (some ⟨g, 0, none⟩) 1 c) (hg : w.cell? ⟨g, 0, none⟩ = some u) (h47 : us.length ≤ 900000000) (hbase : base ≤ w.heap.size)
    (h : ∀ v' w', w'.ownsRow base 9 1 v' (us ++ [u]).length (us ++ [u]) → Below base w w' → wpList Tryd.prog ops R rest (a.put o.dst v') w') : wpList Tryd.prog ops R (o :: rest) a w := by
  obtain ⟨v', w', hrun, h1, h2⟩ := run_append_str o.type base v us hown g c u hg hu h47 hbase
  show if Region.wanted o (yielded ops a.tmps) then _ else _
  rw [if_pos hw]
  left
  unfold Oper.wp
  simp [execOp, ho, resolve, invoke, builtin, hs, hx, hrun, Result.andThen]
  exact h v' w' h1 h2
/-- strings.Join of a row of the call's own, with commas. -/
theorem join_own (ls : List (List B8)) (v : Value) (base : Nat) (sep : ByteArray) (hsep : sep = ⟨#[44]⟩) (w : World) (h : OwnS w base v ls) (hlen : (joi 44 ls).length ≤ 100000) (hN : ls.length ≤ 100000) :
    Calls Tryd.prog 61 #[v, .string sep] w fun e w' => e = .returned (.string (sof (joi 44 ls))) ∧ Below w.heap.size w w' := by
  subst hsep
  rcases h.2 with ⟨rfl, hn⟩ | ⟨g, cap, cur, rfl, hg, hh, hc, hm, hs, ht⟩
  · have e0 : ls = [] := by
      have := List.eq_nil_of_length_eq_zero hn
      exact List.map_eq_nil_iff.1 this
    subst e0
    refine (Tryd.strings_Join_none none 0 ⟨#[44]⟩ w).mono ?_
    rintro e w' ⟨rfl, rfl⟩
    exact ⟨by rw [← sof_none]; rfl, Below.refl _ _⟩
  · have hl : ((ls.map fun l => Value.string (sof l)).length : Nat) = (ls.map sof).length := by simp
    have hcells : ∀ (j : Nat) x, (ls.map sof)[j]? = some x → w.cell? ⟨g, 0 + j, none⟩ = some (.string x) := fun j x hj => by
      rw [cell_of_row w g (0 + j) cur _ _ hh, Nat.zero_add]
      have hj2 : (ls.map fun l => Value.string (sof l))[j]? = some (.string x) := by
        rw [List.getElem?_map] at hj ⊢
        cases hq : ls[j]? with
        | none => rw [hq] at hj; cases hj
        | some y => rw [hq] at hj; have hj := Option.some.inj hj; subst hj; rfl
      rw [← ht, List.getElem?_take] at hj2
      split at hj2
      · simpa using hj2
      · cases hj2
    have ej : (ls.map sof).map (·.data.toList) = ls.map u8l := by
      rw [List.map_map]
      exact List.map_congr_left fun l _ => sof_data l
    have hjl : Lib.join ((ls.map sof).map (·.data.toList)) (⟨#[44]⟩ : ByteArray).data.toList = u8l (joi 44 ls) := by rw [ej]; exact join_joi ls
    have hgl : g < w.heap.size := (Whole.lt (t := 9) hh)
    rw [hl]
    refine (Tryd.strings_Join g 0 cap (ls.map sof) ⟨#[44]⟩ w hcells hgl (by simp; omega) (by simpa using hc) (by rw [hjl, List.length_map]; exact Nat.le_trans hlen (by omega))).mono ?_
    rintro e w' ⟨rfl, hb⟩
    exact ⟨by rw [hjl, sof_u8], hb⟩
end Go.Proofs.YtpodgmmgphibfaaDoor
namespace Go.Proofs.YtpodgmmgphibfaaDoor
open Go Go.RowKit Sh Leaf

/-- What parseNumber says of a text: which numbers it may be. -/
def PN (s : List B8) (n : Int) (ok : Bool) : Prop :=
  (ok = true → 0 ≤ n → s = dcm n.toNat) ∧ (∀ k : Nat, k < 10 ^ 15 → s = dcm k → ok = true ∧ n = (k : Int)) ∧ -9223372036854775808 ≤ n ∧ n ≤ 9223372036854775807
theorem pnumber (s : List B8) (hs : s.length ≤ 100000) (w : World) (hS : Std w) :
    Calls Tryd.prog 66 #[.string (sof s)] w fun e w' => ∃ (n : Int) (ok : Bool), PN s n ok ∧ e = .returned (.tuple #[.int .i64 n, .bool ok]) ∧ Below w.heap.size w w' := by
  have ha := atoi_ s hs
  go_enter Tryd.func66, Tryd.ntmps66
  go_wp2_with fail
  refine (ha w hS).mono ?_
  rintro e w1 ⟨n, v, rfl, hn0, hn1, hv, hb1⟩
  have hS1 := hS.below hb1 (Nat.le_refl _)
  have HB := Lib.hid hb1
  clear hb1 hS ha
  rcases hv with ⟨rfl, hok⟩ | ⟨⟨N, rfl⟩, hno⟩
  · have hit := itoa_z n hn0 hn1 w1 hS1
    have hpn : Hid (PN s n (decide (itl n = s))) := Lib.hid ⟨fun h h0 => by rw [← of_decide_eq_true h, itl_pos h0], fun k hk e => by
      subst e
      rw [atoi_dcm (by omega)] at hok
      injection hok with hok
      subst hok
      exact ⟨decide_eq_true (itl_nat k), rfl⟩, hn0, hn1⟩
    have hbq := sof_beq (itl n) s
    clear hok
    generalize itl n = T at *
    generalize decide (T = s) = D at *
    go_wp2_with fail
    refine hit.mono ?_
    rintro e w2 ⟨rfl, hb2⟩
    go_wp2
    go_ret2
    exact ⟨_, _, hpn.out, rfl, HB.out.trans (hb2.mono HB.out.size)⟩
  · have hpn : Hid (PN s n false) := Lib.hid ⟨(fun h => by cases h), fun k hk e => by
      subst e
      exact absurd (atoi_dcm (by omega)) (hno k), hn0, hn1⟩
    clear hno
    go_wp2
    go_ret2
    exact ⟨_, _, hpn.out, rfl, HB.out⟩
/-- What parseSpan says of a text. -/
def PS (s : List B8) (a b : Int) (ok : Bool) : Prop := ∃ o1 o2, PN (cut1 45 s).1 a o1 ∧ PN (cut1 45 s).2.1 b o2 ∧ ok = (o1 && o2)
theorem cut1_len (c : B8) (s : List B8) : (cut1 c s).1.length ≤ s.length ∧ (cut1 c s).2.1.length ≤ s.length := by
  rcases cut1_cases c s with ⟨a, b, rfl, _, e⟩ | ⟨_, e⟩
  · rw [e]; simp; omega
  · rw [e]; simp
theorem pspan (s : List B8) (hs : s.length ≤ 100000) (w : World) (hS : Std w) :
    Calls Tryd.prog 65 #[.string (sof s)] w fun e w' => ∃ (a b : Int) (ok : Bool), PS s a b ok ∧ e = .returned (.tuple #[.int .i64 a, .int .i64 b, .bool ok]) ∧ Below w.heap.size w w' := by
  have hc := cut_ s 45 ⟨#[45]⟩ rfl hs w hS
  have hl := cut1_len 45 s
  have HP : Hid (∀ a b o1 o2, PN (cut1 45 s).1 a o1 → PN (cut1 45 s).2.1 b o2 → PS s a b (o1 && o2)) := Lib.hid fun a b o1 o2 h1 h2 => ⟨o1, o2, h1, h2, rfl⟩
  generalize cut1 45 s = C at *
  obtain ⟨x, y, z⟩ := C
  simp only at hc hl HP
  go_enter Tryd.func65, Tryd.ntmps65
  go_wp2_with fail
  refine hc.mono ?_
  rintro e w1 ⟨rfl, hb1⟩
  have hS1 := hS.below hb1 (Nat.le_refl _)
  go_wp2_with fail
  refine (pnumber x (by omega) w1 hS1).mono ?_
  rintro e w2 ⟨a, o1, hp1, rfl, hb2⟩
  have hS2 := hS1.below hb2 (Nat.le_refl _)
  have HP1 := Lib.hid hp1
  have HB := Lib.hid (hb1.trans (hb2.mono hb1.size))
  clear hp1 hb1 hb2 hS1 hS
  go_wp2_with fail
  refine (pnumber y (by omega) w2 hS2).mono ?_
  rintro e w3 ⟨b, o2, hp2, rfl, hb3⟩
  have HQ := Lib.hid (HP.out _ _ _ _ HP1.out hp2)
  have HB3 := Lib.hid (HB.out.trans (hb3.mono HB.out.size))
  clear hp2 hb3 HP HP1 HB hS2 hl
  cases o1 <;> cases o2
  all_goals
    go_wp2
    go_ret3
    exact ⟨_, _, _, HQ.out, rfl, HB3.out⟩
end Go.Proofs.YtpodgmmgphibfaaDoor
namespace Go.Proofs.YtpodgmmgphibfaaDoor
open Go Go.RowKit Sh Leaf

theorem joi_spl (c : B8) : ∀ l : List B8, joi c (spl c l) = l
  | [] => rfl
  | x :: r => by
    have ih := joi_spl c r
    have hn := spl_ne c r
    unfold spl
    by_cases hx : x = c
    · rw [if_pos hx, joi_cons _ hn, ih, hx]; rfl
    · rw [if_neg hx]
      cases hq : spl c r with
      | nil => exact absurd hq hn
      | cons y t =>
        rw [hq] at ih
        show joi c ((x :: y) :: t) = x :: r
        rw [← ih]
        cases t with
        | nil => rfl
        | cons z t => rfl
theorem dcm_map_inj : ∀ {a b : List Nat}, a.map dcm = b.map dcm → a = b
  | [], [], _ => rfl
  | [], _ :: _, h => by cases h
  | _ :: _, [], h => by cases h
  | x :: a, y :: b, h => by
    rw [List.map_cons, List.map_cons] at h
    injection h with h1 h2
    rw [dcm_inj h1, dcm_map_inj h2]
/-- What parseMask says of a text. -/
def PM (s : List B8) (most : Nat) (m : Nat) (ok : Bool) : Prop :=
  m < 18446744073709551616 ∧ (ok = true → joi 44 ((bitl m 64).map dcm) = s) ∧ (∀ m0, m0 ≠ 0 → m0 < 2 ^ 64 → m0 < 2 ^ (most + 1) → joi 44 ((bitl m0 64).map dcm) = s → ok = true ∧ m = m0)
/-- What is known between two numbers. -/
def PAt (most : Nat) (pre : List (List B8)) (l : List Nat) (last : Int) : Prop :=
  pre = l.map dcm ∧ l.Pairwise (· < ·) ∧ (∀ x ∈ l, x ≤ most ∧ (x : Int) ≤ last) ∧ (last = -1 ∧ l = [] ∨ ∃ k : Nat, last = (k : Int) ∧ k ∈ l)
theorem PAt.nil (most : Nat) : PAt most [] [] (-1) := ⟨rfl, List.Pairwise.nil, by simp, .inl ⟨rfl, rfl⟩⟩
theorem PAt.next {most : Nat} {pre : List (List B8)} {l : List Nat} {last n : Int} {x : List B8} (h : PAt most pre l last) (hp : PN x n true) (h1 : last < n) (h2 : n ≤ (most : Int)) : PAt most (pre ++ [x]) (l ++ [n.toNat]) n ∧ 0 ≤ n := by
  obtain ⟨rfl, a1, a2, a3⟩ := h
  have h0 : 0 ≤ n := by
    rcases a3 with ⟨e, _⟩ | ⟨k, e, _⟩ <;> omega
  refine ⟨⟨by rw [hp.1 rfl h0]; simp, ?_, ?_, .inr ⟨n.toNat, by omega, by simp⟩⟩, h0⟩
  · rw [List.pairwise_append]
    refine ⟨a1, by simp, fun y hy z hz => ?_⟩
    simp at hz
    have := (a2 y hy).2
    omega
  · intro y hy
    rw [List.mem_append] at hy
    rcases hy with hy | hy
    · have := a2 y hy; omega
    · simp at hy; omega
theorem PAt.lt {most : Nat} {pre : List (List B8)} {l : List Nat} {last : Int} (hm : most < 64) (h : PAt most pre l last) : orl 0 l < 18446744073709551616 := orl_lt l 0 (by omega) fun x hx => by have := (h.2.2.1 x hx).1; omega
theorem PAt.last {most : Nat} {pre : List (List B8)} {l : List Nat} {last : Int} (h : PAt most pre l last) : -1 ≤ last ∧ last ≤ (most : Int) := by
  obtain ⟨_, _, a2, a3⟩ := h
  rcases a3 with ⟨e, _⟩ | ⟨k, e, hk⟩
  · omega
  · have := (a2 k hk).1; omega
theorem PAt.done {most : Nat} {s : List B8} {l : List Nat} {last : Int} (hm : most < 64) (h : PAt most (spl 44 s) l last) : PM s most (orl 0 l) true := by
  have hl : ∀ x ∈ l, x < 64 := fun x hx => by have := (h.2.2.1 x hx).1; omega
  refine ⟨h.lt hm, fun _ => ?_, fun m0 h0 h1 _ e => ⟨rfl, ?_⟩⟩
  · rw [bitl_orl h.2.1 hl, ← h.1, joi_spl]
  · have e1 : spl 44 s = (bitl m0 64).map dcm := by
      rw [← e]
      refine spl_joi _ (by simpa using bitl_ne h0 h1) ?_
      intro a ha
      obtain ⟨i, _, rfl⟩ := List.mem_map.1 ha
      exact dcm_no i (by decide)
    rw [h.1] at e1
    rw [dcm_map_inj e1, orl_bitl h1]
theorem PAt.stop {most : Nat} {s : List B8} {pre : List (List B8)} {x : List B8} {l : List Nat} {last n : Int} {ok : Bool} (h : PAt most pre l last) (hp : PN x n ok) (hno : ¬ (ok = true ∧ last < n ∧ n ≤ (most : Int))) (hs : ∃ t, (pre ++ [x]) ++ t = spl 44 s) : PM s most 0 false := by
  obtain ⟨t, ht⟩ := hs
  refine ⟨by omega, (fun e => by cases e), fun m0 h0 h1 h2 e => absurd ?_ hno⟩
  have e1 : spl 44 s = (bitl m0 64).map dcm := by
    rw [← e]
    refine spl_joi _ (by simpa using bitl_ne h0 h1) ?_
    intro a ha
    obtain ⟨i, _, rfl⟩ := List.mem_map.1 ha
    exact dcm_no i (by decide)
  rw [e1, List.append_assoc] at ht
  obtain ⟨a, b, hab, ha, hb⟩ := List.map_eq_append_iff.1 ht.symm
  obtain ⟨k, b', rfl, hk, _⟩ := List.map_eq_cons_iff.1 hb
  have hal : a = l := dcm_map_inj (ha.trans h.1)
  subst hal
  have hpw := bitl_asc m0 64
  rw [hab, List.pairwise_append] at hpw
  have hkm : k ∈ bitl m0 64 := by rw [hab]; simp
  have hk64 := bitl_lt hkm
  have hkb := (mem_bitl.1 hkm).2
  have hkmost : k ≤ most := by
    rcases Nat.lt_or_ge k (most + 1) with hl | hl
    · omega
    · rw [Nat.testBit_lt_two_pow (Nat.lt_of_lt_of_le h2 (Nat.pow_le_pow_right (by omega) hl))] at hkb; cases hkb
  obtain ⟨hok, hn⟩ := hp.2.1 k (by omega) hk.symm
  refine ⟨hok, ?_, by omega⟩
  rcases h.2.2.2 with ⟨e, _⟩ | ⟨j, e, hj⟩
  · omega
  · have := hpw.2.2 j hj k (by simp); omega
end Go.Proofs.YtpodgmmgphibfaaDoor
