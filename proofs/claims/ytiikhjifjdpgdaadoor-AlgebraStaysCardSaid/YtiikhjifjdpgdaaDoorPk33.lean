/-
  Plain words of Seal; results of a call that gives an algebra, bytes and a number.
  Good algebras: what every algebra is that was made by New, Key, Mac and Seal.
  The reference's Seal.
  The deck's Algebra.
  Rows of entries in blocks of a law's own.
-/
import Derived.Test.YtiikhjifjdpgdaaDoorPk30
import Derived.Test.YtiikhjifjdpgdaaDoorPk24
import Derived.Test.YtiikhjifjdpgdaaDoorPk28
import Derived.Deep.RegionHeld3
import Derived.Deep.CutBlock
import Derived.Deep.DeepCutAuto
import Derived.Test.YtiikhjifjdpgdaaDoorKSq
import Derived.Test.YtiikhjifjdpgdaaDoorPk20
import Derived.Test.YtiikhjifjdpgdaaDoorPk34
import Derived.Test.YtiikhjifjdpgdaaDoorKAnyG
import Derived.Test.YtiikhjifjdpgdaaDoorPk31
import Derived.Test.YtiikhjifjdpgdaaDoorPk19
namespace Go.Proofs.YtiikhjifjdpgdaaDoor
open Go Go.RowKit Sh Leaf
namespace Sh

def boxw : List B8 := [98#8, 111#8, 120#8]
/-- The bytes of the next box. -/
def boxh (k : List B8) (z : Int) (m : List B8) : List B8 := be8 z.toNat ++ strm k z.toNat m
def boxb (a : Alg) (k : List B8) (z : Int) (m : List B8) : List B8 :=
  if a.free = true then sym 98#8 ((a.boxes.length + 1 : Nat) : Int) ++ List.replicate (m.length + 8) 0 else boxh k z m ++ hmac k (boxw ++ boxh k z m)
def fndb (l : List Bx) (k : List B8) (z : Int) (m : List B8) : Option (List B8) := (l.find? fun e => decide (e.key = k ∧ e.nonce = z ∧ e.plain = m)).map (·.box)
def aSeal (a : Alg) (k : List B8) (z : Int) (m : List B8) : Alg × List B8 × Int :=
  if z < 0 ∨ 281474976710656 < z then (zalg, [], 1)
  else if 256 < m.length then (zalg, [], 2)
  else match fndb a.boxes k z m with
    | some b => (a, b, 0)
    | none => if 65536 ≤ a.boxes.length then (zalg, [], 2) else ({ a with boxes := a.boxes ++ [⟨k, z, m, boxb a k z m⟩] }, boxb a k z m, 0)
theorem fndb_drop {l : List Bx} {j : Nat} {e : Bx} (h : l[j]? = some e) (k : List B8) (z : Int) (m : List B8) : fndb (l.drop j) k z m = if e.key = k ∧ e.nonce = z ∧ e.plain = m then some e.box else fndb (l.drop (j + 1)) k z m := by
  have hj := (List.getElem?_eq_some_iff.1 h).1
  have he := (List.getElem?_eq_some_iff.1 h).2
  rw [List.drop_eq_getElem_cons hj, he]
  unfold fndb
  rw [List.find?_cons]
  by_cases h : e.key = k ∧ e.nonce = z ∧ e.plain = m
  · rw [if_pos h, decide_eq_true h]; rfl
  · rw [if_neg h, decide_eq_false h]
theorem fndb_end (l : List Bx) (k : List B8) (z : Int) (m : List B8) : fndb (l.drop l.length) k z m = none := by rw [List.drop_length]; rfl
theorem boxh_length (k : List B8) (z : Int) (m : List B8) : (boxh k z m).length = 8 + m.length := by unfold boxh; rw [List.length_append, be8_length, strm_length]
theorem boxb_length (a : Alg) (k : List B8) (z : Int) (m : List B8) : (boxb a k z m).length = m.length + 40 := by
  unfold boxb
  split
  · rw [List.length_append, sym_length, List.length_replicate]; omega
  · rw [List.length_append, boxh_length, hmac_length]; omega
end Sh
/-- The result is an algebra, bytes and a number. -/
def SeR (w : World) (Q Q' : Nat → Prop) (e : Ending) (r : Alg × List B8 × Int) : Prop := ∃ x v, e = .returned (.tuple #[x, v, .int .i64 r.2.2]) ∧ AlV w Q x r.1 ∧ Bytes w Q' v r.2.1
theorem results_algb {w : World} {g : Nat} {fn : Func} {p q r : Tmp} (h : fn.results = #[.cell p 32, .tmp q, .tmp r]) (tmps : Array Value) {cs : Array Value} (hp : tmps.getD p undef = .pointer (some ⟨g, 0, none⟩)) (y : Value) (hq : tmps.getD q undef = y) (x : Value) (hr : tmps.getD r undef = x)
    (h8 : cs.size = 36) (hg : Whole w g 32 cs) : (results fn tmps).run Tryd.prog w = .ok (.tuple #[.agg cs, y, x]) w := by
  have hp' : tmps[p]?.getD undef = .pointer (some ⟨g, 0, none⟩) := by simpa using hp
  have hq' : tmps[q]?.getD undef = y := by simpa using hq
  have hr' : tmps[r]?.getD undef = x := by simpa using hr
  simp [results, h, hp', hq', hr', asAddr, run_loadVar_row w g 32 32 cs (0, 0) _ hg Tryd.underlying32 rfl (by rw [algSize, h8])]
theorem bytes_nil (w : World) (Q : Nat → Prop) : Bytes w Q (.slice none 0 0) [] := ⟨none, 0, rfl, Nat.le_refl _, by unfold maxLen; omega, fun _ => rfl, fun h => by cases h⟩
end Go.Proofs.YtiikhjifjdpgdaaDoor
namespace Go.Proofs.YtiikhjifjdpgdaaDoor
open Go Go.RowKit Sh Leaf
namespace Sh

theorem fnd_snoc (l : List Me) (x : Me) (k m : List B8) : fnd (l ++ [x]) k m = match fnd l k m with | some t => some t | none => if x.key = k ∧ x.msg = m then some x.tag else none := by
  unfold fnd
  rw [List.find?_append]
  cases h : List.find? (fun e => decide (e.key = k ∧ e.msg = m)) l with
  | some e => rfl
  | none =>
    simp only [Option.none_or, Option.map_none]
    by_cases hx : x.key = k ∧ x.msg = m
    · rw [if_pos hx, List.find?_cons, decide_eq_true hx]; rfl
    · rw [if_neg hx, List.find?_cons, decide_eq_false hx]; rfl
theorem fndb_snoc (l : List Bx) (x : Bx) (k : List B8) (z : Int) (m : List B8) : fndb (l ++ [x]) k z m = match fndb l k z m with | some t => some t | none => if x.key = k ∧ x.nonce = z ∧ x.plain = m then some x.box else none := by
  unfold fndb
  rw [List.find?_append]
  cases h : List.find? (fun e => decide (e.key = k ∧ e.nonce = z ∧ e.plain = m)) l with
  | some e => rfl
  | none =>
    simp only [Option.none_or, Option.map_none]
    by_cases hx : x.key = k ∧ x.nonce = z ∧ x.plain = m
    · rw [if_pos hx, List.find?_cons, decide_eq_true hx]; rfl
    · rw [if_neg hx, List.find?_cons, decide_eq_false hx]; rfl
theorem fnd_mem {l : List Me} {k m t : List B8} (h : fnd l k m = some t) : ∃ e ∈ l, e.key = k ∧ e.msg = m ∧ e.tag = t := by
  unfold fnd at h
  obtain ⟨e, he, rfl⟩ := Option.map_eq_some_iff.1 h
  have h1 := List.find?_some he
  have h2 : e.key = k ∧ e.msg = m := by simpa using h1
  exact ⟨e, List.mem_of_find?_eq_some he, h2.1, h2.2, rfl⟩
theorem fndb_mem {l : List Bx} {k : List B8} {z : Int} {m t : List B8} (h : fndb l k z m = some t) : ∃ e ∈ l, e.key = k ∧ e.nonce = z ∧ e.plain = m ∧ e.box = t := by
  unfold fndb at h
  obtain ⟨e, he, rfl⟩ := Option.map_eq_some_iff.1 h
  have h1 := List.find?_some he
  have h2 : e.key = k ∧ e.nonce = z ∧ e.plain = m := by simpa using h1
  exact ⟨e, List.mem_of_find?_eq_some he, h2.1, h2.2.1, h2.2.2, rfl⟩
structure GoodA (a : Alg) : Prop where
  fm : ∀ e ∈ a.macs, fnd a.macs e.key e.msg = some e.tag
  cm : a.free = false → ∀ e ∈ a.macs, e.tag = hmac e.key e.msg
  lm : ∀ e ∈ a.macs, e.msg.length ≤ 4096
  fb : ∀ b ∈ a.boxes, fndb a.boxes b.key b.nonce b.plain = some b.box
  cb : a.free = false → ∀ b ∈ a.boxes, b.box = boxh b.key b.nonce b.plain ++ hmac b.key (boxw ++ boxh b.key b.nonce b.plain)
  lb : ∀ b ∈ a.boxes, b.plain.length ≤ 256
  nb : ∀ b ∈ a.boxes, 0 ≤ b.nonce ∧ b.nonce ≤ 281474976710656
  tb : a.free = true → ∀ (i : Nat) b, a.boxes[i]? = some b → b.box = sym 98#8 ((i + 1 : Nat) : Int) ++ List.replicate (b.plain.length + 8) 0
  tm : a.free = true → ∀ (i : Nat) e, a.macs[i]? = some e → e.tag = sym 109#8 ((i + 1 : Nat) : Int)
theorem snoc_get {α : Type} {l : List α} {x y : α} {i : Nat} (h : (l ++ [x])[i]? = some y) : l[i]? = some y ∨ (i = l.length ∧ y = x) := by
  rw [List.getElem?_append] at h
  split at h
  · exact .inl h
  · right
    obtain ⟨hi, h⟩ := List.getElem?_eq_some_iff.1 h
    have : i - l.length = 0 := by simp at hi; omega
    refine ⟨by omega, ?_⟩
    simp [this] at h
    exact h.symm
theorem good_new (f : Bool) (K : List B8) : GoodA ⟨f, K, 0, [], []⟩ := ⟨by simp, by simp, by simp, by simp, by simp, by simp, by simp, by simp, by simp⟩
theorem good_key {a : Alg} (h : GoodA a) : GoodA (aKey a).1 := by
  unfold aKey
  split
  · exact good_new _ _
  · exact ⟨h.fm, h.cm, h.lm, h.fb, h.cb, h.lb, h.nb, h.tb, h.tm⟩
theorem good_mac {a : Alg} {K m : List B8} (h : GoodA a) : GoodA (aMac a K m).1 := by
  unfold aMac
  split
  · exact good_new _ _
  rename_i hm
  split
  · exact h
  rename_i hf
  split
  · exact good_new _ _
  refine ⟨?_, ?_, ?_, h.fb, h.cb, h.lb, h.nb, h.tb, ?_⟩
  · intro e he
    show fnd (a.macs ++ [_]) _ _ = _
    rw [fnd_snoc]
    rcases List.mem_append.1 he with he | he
    · rw [h.fm e he]
    · rw [List.mem_singleton.1 he]
      simp only [hf]
      simp
  · intro hfr e he
    rcases List.mem_append.1 he with he | he
    · exact h.cm hfr e he
    · rw [List.mem_singleton.1 he]
      show ntag a K m = _
      unfold ntag
      rw [if_neg (by rw [show a.free = false from hfr]; simp)]
  · intro e he
    rcases List.mem_append.1 he with he | he
    · exact h.lm e he
    · rw [List.mem_singleton.1 he]
      show m.length ≤ 4096
      omega
  · intro hfr i e he
    rcases snoc_get he with he | ⟨rfl, rfl⟩
    · exact h.tm hfr i e he
    · show ntag a K m = _
      unfold ntag
      rw [if_pos hfr]
theorem good_seal {a : Alg} {K m : List B8} {z : Int} (h : GoodA a) : GoodA (aSeal a K z m).1 := by
  unfold aSeal
  split
  · exact good_new _ _
  rename_i hz
  split
  · exact good_new _ _
  rename_i hm
  split
  · exact h
  rename_i hf
  split
  · exact good_new _ _
  refine ⟨h.fm, h.cm, h.lm, ?_, ?_, ?_, ?_, ?_, h.tm⟩
  · intro e he
    show fndb (a.boxes ++ [_]) _ _ _ = _
    rw [fndb_snoc]
    rcases List.mem_append.1 he with he | he
    · rw [h.fb e he]
    · rw [List.mem_singleton.1 he]
      simp only [hf]
      simp
  · intro hfr e he
    rcases List.mem_append.1 he with he | he
    · exact h.cb hfr e he
    · rw [List.mem_singleton.1 he]
      show boxb a K z m = _
      unfold boxb
      rw [if_neg (by rw [show a.free = false from hfr]; simp)]
  · intro e he
    rcases List.mem_append.1 he with he | he
    · exact h.lb e he
    · rw [List.mem_singleton.1 he]
      show m.length ≤ 256
      omega
  · intro e he
    rcases List.mem_append.1 he with he | he
    · exact h.nb e he
    · rw [List.mem_singleton.1 he]
      show 0 ≤ z ∧ z ≤ 281474976710656
      omega
  · intro hfr i e he
    rcases snoc_get he with he | ⟨rfl, rfl⟩
    · exact h.tb hfr i e he
    · show boxb a K z m = _
      unfold boxb
      rw [if_pos hfr]
end Sh
end Go.Proofs.YtiikhjifjdpgdaaDoor
namespace Go.Proofs.YtiikhjifjdpgdaaDoor
open Go Go.RowKit Sh Leaf
theorem sbytes_boxw : sbytes { data := #[98, 111, 120] } = boxw := by with_unfolding_all rfl
theorem own_setRow {w : World} {base G : Nat} {v : Value} {l : List B8} {cs : Array Value} (h : Own w base v l) (hz : Whole w G 28 cs) (cs' : Array Value) : Own (w.setRow G cs') base v l := by
  refine ⟨h.1, ?_⟩
  rcases h.2 with h2 | ⟨g', cap', cur', hv, hg', hh', r⟩
  · exact .inl h2
  · refine .inr ⟨g', cap', cur', hv, hg', ?_, r⟩
    have hne : g' ≠ G := by
      intro e
      subst e
      have hz' := hz.eq
      rw [hz'] at hh'
      injection hh' with hh'
      injection hh' with _ ht
      exact tag_ne_u8 ht
    exact (setRow_other _ _ g' _ hne).trans hh'
set_option linter.unusedSimpArgs false in
set_option linter.unusedVariables false in
set_option maxRecDepth 100000 in
set_option maxHeartbeats 8000000 in
theorem rseal {w : World} {Q Q2 : Nat → Prop} {x : Value} {B : Option Addr} {d : Nat} {a : Alg} {K m : List B8} {z : Int} (hx : AlV w Q x a) (hlen : a.boxes.length < 1000) (hK : K.length = 32) (hz : i64q z) (hm : Bytes w Q2 (.slice B m.length d) m) (hml : m.length ≤ 100000) :
    Calls Tryd.prog 32 #[x, .agg (K.map byt).toArray, .int .i64 z, .slice B m.length d] w fun e w' => SeR w' (fun g => Q g ∨ w.heap.size ≤ g) (fun g => w.heap.size ≤ g) e (aSeal a K z m) ∧ Below w.heap.size w w' := by
  have hx0 := hx
  obtain ⟨Am, cm, Ab, cb, rfl, hM, hBx, hA⟩ := hx
  obtain ⟨nb, hnb⟩ : ∃ n, n = a.boxes.length := ⟨_, rfl⟩
  rw [← hnb] at hlen hx0 ⊢
  obtain ⟨p, hp⟩ : ∃ p, p = ((w.alloc (.cells (alc a.free a.seed a.fresh (.slice Am a.macs.length cm) (.slice Ab nb cb)) 32)).alloc (.cells (K.map byt).toArray 28)).alloc (.cells zar 32) := ⟨_, rfl⟩
  have hr : ALRow p w.heap.size a.free a.seed a.fresh (.slice Am a.macs.length cm) (.slice Ab nb cb) := by rw [hp]; exact ((Whole.here _ _ _).alloc _).alloc _
  have hk : TGRow p (w.heap.size + 1) K := by rw [hp]; exact (Whole.at_ _ _ _ _ (by simp)).alloc _
  have h8 : Whole p (w.heap.size + 1 + 1) 32 zar := by rw [hp]; exact Whole.at_ _ _ _ _ (by simp)
  have hb : Below w.heap.size w p := by rw [hp]; exact (((Below.refl _ _).alloc (Nat.le_refl _) _).alloc (by simp) _).alloc (by simp; omega) _
  have hps : (w.heap.size + 1 + 1) < p.heap.size := h8.lt
  have HX := Lib.hid hx0
  have HMC := Lib.hid hM
  have HBX := Lib.hid hBx
  have HA := Lib.hid hA
  have HM := Lib.hid hm
  have HR := Lib.hid hr
  have HK := Lib.hid hk
  have H8 := Lib.hid h8
  have HB := Lib.hid hb
  have HNB := Lib.hid hnb
  obtain ⟨hz0, hz1⟩ := hz
  clear hx0 hM hBx hA hm hr hk h8 hb hnb
  obtain ⟨R, hR⟩ : ∃ R, R = aSeal a K z m := ⟨_, rfl⟩
  have hRR := hR
  unfold aSeal at hRR
  rw [← hR]
  clear hR
  go_enter Tryd.func32, Tryd.ntmps32
  go_upto_region 1 with fail
  rw [zar_lit, ← hp]
  clear hp
  by_cases hneg : z < 0
  · skip
    rw [if_pos (Or.inl hneg)] at hRR
    have HRR := Lib.hid hRR
    clear hRR
    go_wp2_with (with_reducible refine wpList_store_alg rfl _ _ rfl (g := (w.heap.size + 1 + 1)) rfl rfl H8.out zar_size rfl (by with_unfolding_all rfl) ?_)
    rw [zar_lit]
    have e1 := Whole.setRow H8.out zar
    refine bodyPost_ret (results_algb Tryd.results32 _ rfl _ rfl _ rfl zar_size e1) rfl ?_
    show SeR _ _ _ _ R ∧ _
    rw [HRR.out]
    exact ⟨⟨_, _, rfl, alv_zero _ _, bytes_nil _ _⟩, below_setRow HB.out (by omega) _⟩
  by_cases hbig : 281474976710656 < z
  · skip
    rw [if_pos (Or.inr hbig)] at hRR
    have HRR := Lib.hid hRR
    clear hRR
    go_wp2_with (with_reducible refine wpList_store_alg rfl _ _ rfl (g := (w.heap.size + 1 + 1)) rfl rfl H8.out zar_size rfl (by with_unfolding_all rfl) ?_)
    rw [zar_lit]
    have e1 := Whole.setRow H8.out zar
    refine bodyPost_ret (results_algb Tryd.results32 _ rfl _ rfl _ rfl zar_size e1) rfl ?_
    show SeR _ _ _ _ R ∧ _
    rw [HRR.out]
    exact ⟨⟨_, _, rfl, alv_zero _ _, bytes_nil _ _⟩, below_setRow HB.out (by omega) _⟩
  rw [if_neg (by omega)] at hRR
  by_cases hlong : 256 < m.length
  · skip
    rw [if_pos hlong] at hRR
    have HRR := Lib.hid hRR
    have hl1 : (256 : Int) < (m.length : Int) := by omega
    clear hRR hlong
    go_wp2_with (with_reducible refine wpList_store_alg rfl _ _ rfl (g := (w.heap.size + 1 + 1)) rfl rfl H8.out zar_size rfl (by with_unfolding_all rfl) ?_)
    rw [zar_lit]
    have e1 := Whole.setRow H8.out zar
    refine bodyPost_ret (results_algb Tryd.results32 _ rfl _ rfl _ rfl zar_size e1) rfl ?_
    show SeR _ _ _ _ R ∧ _
    rw [HRR.out]
    exact ⟨⟨_, _, rfl, alv_zero _ _, bytes_nil _ _⟩, below_setRow HB.out (by omega) _⟩
  rw [if_neg hlong] at hRR
  have hl1 : ¬ (256 : Int) < (m.length : Int) := by omega
  obtain ⟨f, hf⟩ : ∃ f, f = fndb a.boxes K z m := ⟨_, rfl⟩
  rw [← hf] at hRR
  have HRR0 := Lib.hid hRR
  have HF0 := Lib.hid hf
  clear hRR hf
  go_wp2_with fail
  go_loopw [11] (fun v wr => ∃ j : Nat, v = .int .i64 j ∧ j ≤ nb ∧ fndb (a.boxes.drop j) K z m = f ∧ Below p.heap.size p wr) (fun v _ => nb - (intOf v).toNat)
  case atStart => exact ⟨0, rfl, by omega, by rw [List.drop_zero]; exact HF0.out.symm, Below.refl _ _⟩
  case round =>
    obtain ⟨j, rfl, hj, hf, hbw⟩ := hrel
    have HF := Lib.hid hf
    have HBW := Lib.hid hbw
    have hpw : p.heap.size ≤ wr.heap.size := hbw.size
    obtain ⟨c0, c33, c34, c35⟩ := ALRow.cells (Whole.below HR.out hbw (by omega))
    clear hf hbw c0 c33 c34
    by_cases hlt : j < nb
    case neg =>
      obtain rfl : j = nb := by omega
      have HXN : Hid (f = none) := Lib.hid (by have := HF.out; rw [HNB.out, fndb_end] at this; exact this.symm)
      obtain ⟨zn, rfl⟩ := Int.eq_ofNat_of_zero_le hneg
      obtain ⟨bx, hbx⟩ : ∃ b, b = boxb a K (zn : Int) m := ⟨_, rfl⟩
      have hbl : bx.length = m.length + 40 := by rw [hbx]; exact boxb_length _ _ _ _
      have hRR : R = ({ a with boxes := a.boxes ++ [⟨K, (zn : Int), m, bx⟩] }, bx, 0) := by
        have := HRR0.out
        rw [HXN.out] at this
        simp only [if_neg (show ¬ 65536 ≤ a.boxes.length by have := HNB.out; omega)] at this
        rw [hbx]; exact this
      have HRR := Lib.hid hRR
      have HBXE := Lib.hid hbx
      have HBL := Lib.hid hbl
      have hzn : zn ≤ 281474976710656 := by omega
      have hmn : m.length ≤ 256 := by omega
      have hc0 := (ALRow.cells (Whole.below HR.out HBW.out (by omega))).1
      have hln2 : ¬ (65536 : Int) ≤ (j : Int) := by omega
      have HRR1 := HRR
      have hst := fun g W => run_sliceAt_whole (P := Tryd.prog) (t := 28) (e := 5) (n := 32) Tryd.underlying28 (by kernel_rfl) g W
      have HZ := Lib.hid (And.intro hzn (And.intro hneg (And.intro hbig (And.intro hz0 hz1))))
      have HMN := Lib.hid hmn
      clear hRR hbx hbl HRR0 HF HF0 HRR1 hzn hneg hbig hz0 hz1 hmn hlong hl1
      clear hst
      obtain ⟨E, hE⟩ : ∃ E, E = a.free := ⟨_, rfl⟩
      rw [← hE] at hc0
      have HE := Lib.hid hE
      clear hE
      go_upto_if 66 with fail
      go_cut [13, 14, 15] (fun v s t wx => ∃ (D : Option Addr) (dc : Nat), v = .slice D bx.length dc ∧ Bytes wx (fun g => p.heap.size ≤ g) (.slice D bx.length dc) bx ∧ Below p.heap.size p wx)
      case first =>
        have hzn := HZ.out.1
        have hmn := HMN.out
        have hst := fun g W => run_sliceAt_whole (P := Tryd.prog) (t := 28) (e := 5) (n := 32) Tryd.underlying28 (by kernel_rfl) g W
        cases E with
        | true =>
          have hsy := rsymbol 98#8 ((j + 1 : Nat) : Int) wr
          rw [bv98, show ((j + 1 : Nat) : Int) = (j : Int) + 1 by omega] at hsy
          obtain ⟨S, hS⟩ : ∃ S, S = sym 98#8 ((j : Int) + 1) := ⟨_, rfl⟩
          have hSl : S.length = 32 := by rw [hS]; exact sym_length _ _
          rw [← hS] at hsy
          have HSS := Lib.hid hS
          clear hS
          go_wp2_with fail
          refine hsy.mono ?_
          rintro e w1 ⟨rfl, hb1⟩
          clear hsy c35 hc0
          have hp1 : p.heap.size ≤ w1.heap.size := Nat.le_trans hpw hb1.size
          go_upto_region 16 with (with_reducible refine wpList_store_tag rfl _ _ rfl (g := w1.heap.size) rfl rfl (Whole.here w1 _ _) rfl (tag_size hSl) (tag_one _) ?_)
          rw [ztr_lit]
          obtain ⟨u, hu⟩ : ∃ x, x = (w1.alloc (.cells ztr 28)).setRow w1.heap.size (S.map byt).toArray := ⟨_, rfl⟩
          have ht : TGRow u w1.heap.size S := by rw [hu]; exact Whole.setRow (Whole.here _ _ _) _
          have hbu : Below w1.heap.size w1 u := by rw [hu]; exact below_setRow ((Below.refl _ _).alloc (Nat.le_refl _) _) (Nat.le_refl _) _
          rw [← hu]
          clear hu
          have HBU : Hid (Below p.heap.size p u) := Lib.hid (HBW.out.trans ((hb1.mono hpw).trans (hbu.mono hp1)))
          clear hb1 hbu
          go_wp2_with (at_builtin; refine wpList_append_tag_zeros rfl _ _ rfl w1.heap.size S rfl ht hSl (m.length + 8) (by with_unfolding_all rfl) (by omega) (by omega) ?_; intro v2 w2 ho2 hb2)
          have hbxe : S ++ List.replicate (m.length + 8) 0 = bx := by
            rw [HBXE.out, HSS.out]
            unfold boxb
            rw [if_pos HE.out.symm, ← HNB.out]
            rfl
          rw [hbxe] at ho2
          obtain ⟨D, dc, rfl, -⟩ := id (Bytes.of_own ho2)
          go_meet
          exact ⟨D, dc, rfl, (Bytes.of_own ho2).mono (fun g _ h => by have h : u.heap.size ≤ g := h; have := HBU.out.size; omega), HBU.out.trans (hb2.mono HBU.out.size)⟩
        | false =>
          have hwz : IntKind.u64.wrap (zn : Int) = (zn : Int) := by rw [IntKind.wrap_u64]; omega
          have hlen8 : (be8 zn).length = 8 := be8_length zn
          have hKl : (K.map byt).length = 32 := by rw [List.length_map, hK]
          have hstl : (strm K zn m).length = m.length := strm_length K zn m
          clear hc0 c35
          go_upto_region 17 with fail
          have hk0 : TGRow wr.drew (w.heap.size + 1) K := Whole.drew (Whole.below HK.out HBW.out (by omega))
          have b0 : Below p.heap.size p wr.drew := HBW.out.drew
          have hm0 := Lib.hid ((HM.out.below HB.out (Nat.le_refl _)).below b0 (Nat.le_refl _))
          have hpw0 : p.heap.size ≤ wr.drew.heap.size := hpw
          refine wp_region_held_drew (S := fun W : World => W.rangeAt (w.heap.size + 1) 0 (K.map byt)) (by kernel_rfl) (TGRow.range hk0) (fun hHeld => ?_)
          generalize wr.drew = W0 at hk0 b0 hm0 hpw0 hHeld ⊢
          have HCC : Hid (∀ W, Below W0.heap.size W0 W → (fun W : World => W.rangeAt (w.heap.size + 1) 0 (K.map byt)) W) := Lib.hid fun W hb => TGRow.range (Whole.below hk0 hb hk0.lt)
          apply wpT (i := 0) rfl (by kernel_rfl)
          case hQ => exact fun _ _ _ h => h
          case hS => exact hHeld
          case hy => (refine Or.inl ⟨by rfl, ?_⟩; intro w hSw; (try go_split_ands); go_simp; (try with_reducible rfl))
          (try simp only [sq])
          apply wpT (i := 1) rfl (by kernel_rfl)
          case hQ => exact fun _ _ _ h => h
          case hS => exact hHeld
          case hy => (refine Or.inl ⟨by rfl, ?_⟩; intro w hSw; (try go_split_ands); go_simp; (try with_reducible rfl))
          (try simp only [sq])
          apply wpT (i := 3) rfl (by kernel_rfl)
          case hQ => exact fun _ _ _ h => h
          case hS => exact hHeld
          case hy => exact yieldsIf_load_mid (by rfl) 28 _ rfl (w.heap.size + 1) (0) rfl (K.map byt) _ (fun w hS => hS) Tryd.underlying28 rfl (by rw [tagSize, hKl])
          (try simp only [sq])
          apply wpT (i := 4) rfl (by kernel_rfl)
          case hQ => exact fun _ _ _ h => h
          case hS => exact hHeld
          case hy => (refine Or.inl ⟨by rfl, ?_⟩; intro w hSw; (try go_split_ands); go_simp; (try with_reducible rfl))
          (try simp only [sq])
          apply wpT (i := 5) rfl (by kernel_rfl)
          case hQ => exact fun _ _ _ h => h
          case hS => exact hHeld
          case hy => (refine Or.inl ⟨by rfl, ?_⟩; intro w hSw; (try go_split_ands); go_simp; (try with_reducible rfl))
          (try simp only [sq])
          apply wpT (i := 6) rfl (by kernel_rfl)
          case hQ => exact fun _ _ _ h => h
          case hS => exact hHeld
          case hy => (refine Or.inl ⟨by rfl, ?_⟩; intro w hSw; (try go_split_ands); go_simp; (try with_reducible rfl))
          (try simp only [sq])
          refine wpAnyH_ready (rs := [2]) (by kernel_rfl) (by simp) ?_
          refine AllReadyH.cons rfl (fun KK hKK => ?_) AllReadyH.nil
          (try simp only [sq])
          go_simp
          go_at_call 64
          refine (eight zn W0).mono ?_
          rintro e W1 ⟨v1, rfl, o1, s1⟩
          refine hKK.out _ _ (HCC.out _ s1) (fun hHeld => ?_)
          clear hKK KK
          (try simp only [sq])
          refine wpAnyH_ready (rs := [7]) (by kernel_rfl) (by simp) ?_
          refine AllReadyH.cons rfl (fun KK hKK => ?_) AllReadyH.nil
          (try simp only [sq])
          go_simp
          go_at_call 65
          refine (rstream (w := W1) (K := K) (b := m) zn (by omega) hK (hm0.out.below s1 (Nat.le_refl _)) (by omega)).mono ?_
          rintro e W2 ⟨v2, rfl, o2, s2⟩
          have o1b := own_below o1 s2 (Nat.le_refl _)
          have s12 : Below W0.heap.size W0 W2 := s1.trans (s2.mono s1.size)
          refine hKK.out _ _ (HCC.out _ s12) (fun hHeld => ?_)
          clear hKK KK
          (try simp only [sq])
          refine wpAnyH_ready (rs := [8]) (by kernel_rfl) (by simp) ?_
          refine AllReadyH.cons rfl (fun KK hKK => ?_) AllReadyH.nil
          refine step_append_bytes (by rfl) _ _ (by rfl) W0.heap.size _ (be8 zn) (by rfl) o1b _ _ (strm K zn m) (by rfl) (Bytes.of_own o2) (by omega) s12.size ?_
          intro v3 W3 o3 hs3
          have s3 : Below W0.heap.size W0 W3 := s12.trans hs3
          refine hKK.out _ _ (HCC.out _ s3) (fun hHeld => ?_)
          clear hKK KK
          (try simp only [sq])
          apply wpT (i := 9) rfl (by kernel_rfl)
          case hQ => exact fun _ _ _ h => h
          case hS => exact hHeld
          case hy => (refine Or.inl ⟨by rfl, ?_⟩; intro w hSw; (try go_split_ands); go_simp; (try with_reducible rfl))
          (try simp only [sq])
          refine wpAnyH_done (by kernel_rfl) ?_ _
          clear hHeld
          have b3 : Below p.heap.size p W3 := b0.trans (s3.mono hpw0)
          have hw3 : W0.heap.size ≤ W3.heap.size := s3.size
          obtain ⟨Hh, hHh⟩ : ∃ H, H = be8 zn ++ strm K zn m := ⟨_, rfl⟩
          rw [← hHh] at o3
          have hHl : Hh.length = 8 + m.length := by rw [hHh, List.length_append, hlen8, hstl]
          obtain ⟨T, hT⟩ : ∃ T, T = hmac K (boxw ++ Hh) := ⟨_, rfl⟩
          have hTl : T.length = 32 := by rw [hT]; exact hmac_length _ _
          have hbxe : Hh ++ T = bx := by
            rw [HBXE.out, hT]
            unfold boxb
            rw [if_neg (by rw [← HE.out]; exact Bool.false_ne_true)]
            unfold boxh
            rw [Int.toNat_natCast, hHh]
          have HT := Lib.hid hT
          clear hHh hT s3 hs3 o1 o1b o2 s1 s2 s12 HCC
          go_upto_region 18 with fail
          have oH0 : Own W3.drew W0.heap.size v3 Hh := own_below o3 (Below.refl _ _).drew (Nat.le_refl _)
          have c0 : Below p.heap.size p W3.drew := b3.drew
          refine wp_region_held_drew (S := fun _ : World => True) (by kernel_rfl) (trivial) (fun hHeld => ?_)
          have hw4 : W0.heap.size ≤ W3.drew.heap.size := hw3
          generalize W3.drew = X0 at oH0 c0 hw4 ⊢
          apply wpT (i := 0) rfl (by kernel_rfl)
          case hQ => exact fun _ _ _ h => h
          case hS => exact hHeld
          case hy => (refine Or.inl ⟨by rfl, ?_⟩; intro w hSw; (try go_split_ands); go_simp; (try with_reducible rfl))
          (try simp only [sq])
          apply wpT (i := 1) rfl (by kernel_rfl)
          case hQ => exact fun _ _ _ h => h
          case hS => exact hHeld
          case hy => (refine Or.inl ⟨by rfl, ?_⟩; intro w hSw; (try go_split_ands); go_simp; (try with_reducible rfl))
          (try simp only [sq])
          refine wpAnyH_ready (rs := [2, 4]) (by kernel_rfl) (by simp) ?_
          refine AllReadyH.cons rfl (fun KK hKK => ?_) (AllReadyH.cons rfl (fun KK hKK => ?_) AllReadyH.nil)
          · (try simp only [sq])
            go_simp
            go_at_call 66
            refine (rword { data := #[98, 111, 120] } (by decide) v3 Hh _ X0 (Bytes.of_own oH0) (by omega) (by omega)).mono ?_
            rintro e X1 ⟨vM, rfl, oM0, hs1⟩
            have b1 : Below p.heap.size p X1 := c0.trans (hs1.mono c0.size)
            have oH1 := own_below oH0 hs1 (Nat.le_refl _)
            have hsx1 : X0.heap.size ≤ X1.heap.size := hs1.size
            rw [sbytes_boxw] at oM0
            have oM1 := oM0
            refine hKK.out _ _ (trivial) (fun hHeld => ?_)
            clear hKK KK
            (try simp only [sq])
            refine wpAnyH_ready (rs := [3, 4]) (by kernel_rfl) (by simp) ?_
            refine AllReadyH.cons rfl (fun KK hKK => ?_) (AllReadyH.cons rfl (fun KK hKK => ?_) AllReadyH.nil)
            · (try simp only [sq])
              have hby := Whole.bytes (Whole.below HK.out b1 (by omega)) (by omega)
              rw [hK] at hby
              go_simp
              go_at_call 44
              refine (ref_hmac _ _ K (boxw ++ Hh) _ _ X1 hby oM1.bytes (by omega) (by rw [List.length_append]; have : boxw.length = 3 := rfl; omega)).mono ?_
              rintro e X2 ⟨rfl, hs2⟩
              rw [← HT.out]
              have b2 : Below p.heap.size p X2 := b1.trans (hs2.mono b1.size)
              have oH2 := own_below oH1 hs2 (Nat.le_refl _)
              have hsx2 : X0.heap.size ≤ X2.heap.size := Nat.le_trans hsx1 hs2.size
              refine hKK.out _ _ (trivial) (fun hHeld => ?_)
              clear hKK KK
              (try simp only [sq])
              refine wpAnyH_ready (rs := [4]) (by kernel_rfl) (by simp) ?_
              refine AllReadyH.cons rfl (fun KK hKK => ?_) AllReadyH.nil
              (try simp only [sq])
              obtain ⟨G, hG⟩ : ∃ g, g = X2.heap.size := ⟨_, rfl⟩
              obtain ⟨X3, hX3⟩ : ∃ x, x = X2.alloc (.cells ztr 28) := ⟨_, rfl⟩
              have hs3 : Below X2.heap.size X2 X3 := by rw [hX3]; exact (Below.refl _ _).alloc (Nat.le_refl _) _
              have zz3 : Whole X3 G 28 ztr := by rw [hX3, hG]; exact Whole.here _ _ _
              have b3 : Below p.heap.size p X3 := b2.trans (hs3.mono b2.size)
              have hgl : p.heap.size ≤ G := by rw [hG]; exact b2.size
              have oH3 := own_below oH2 hs3 (Nat.le_refl _)
              have hsx3 : X0.heap.size ≤ X3.heap.size := Nat.le_trans hsx2 hs3.size
              have z3 := zz3
              go_simp
              rw [ztr_lit, ← hG, ← hX3]
              clear hX3 hG
              refine hKK.out _ _ (trivial) (fun hHeld => ?_)
              clear hKK KK
              (try simp only [sq])
              refine wpAnyH_ready (rs := [5]) (by kernel_rfl) (by simp) ?_
              refine AllReadyH.cons rfl (fun KK hKK => ?_) AllReadyH.nil
              (try simp only [sq])
              obtain ⟨X4, hX4⟩ : ∃ x, x = X3.setRow G (T.map byt).toArray := ⟨_, rfl⟩
              have t4 : TGRow X4 G T := by rw [hX4]; exact Whole.setRow z3 _
              have b4 : Below p.heap.size p X4 := by rw [hX4]; exact below_setRow b3 hgl _
              have hsx4 : X0.heap.size ≤ X4.heap.size := by rw [hX4]; exact Nat.le_trans hsx3 (below_setRow (B := 0) (Below.refl 0 _) (Nat.zero_le _) _).size
              have oH4 : Own X4 W0.heap.size v3 Hh := by rw [hX4]; exact own_setRow oH3 z3 _
              rw [if_pos (by kernel_rfl)]
              refine wp_store_row 28 _ _ rfl G _ rfl rfl 28 _ z3 (by rw [tagSize, tag_size hTl]) (by rw [ztr_size, tag_size hTl]) (tag_one _) ?_
              rw [← hX4]
              clear hX4
              refine hKK.out _ _ (trivial) (fun hHeld => ?_)
              clear hKK KK
              (try simp only [sq])
              refine wpAnyH_done (by kernel_rfl) ?_ _
              have hbyT := Whole.bytes t4 (by omega)
              rw [hTl] at hbyT
              have hwx : W0.heap.size ≤ X4.heap.size := Nat.le_trans hw4 hsx4
              have hTl2 : Hh.length + T.length ≤ 100000 := by omega
              clear hHeld
              go_wp2_with (at_builtin; refine wpList_append_bytes rfl _ _ rfl W0.heap.size v3 Hh rfl oH4 _ _ T rfl hbyT (by omega) hwx ?_; intro v9 X9 o9 hb9)
              rw [hbxe] at o9
              obtain ⟨D, dc, rfl, -⟩ := id (Bytes.of_own o9)
              go_meet
              exact ⟨D, dc, rfl, (Bytes.of_own o9).mono (fun g _ h => by have h : W0.heap.size ≤ g := h; omega), b4.trans (hb9.mono hpw0)⟩
            · (try simp only [sq])
              obtain ⟨G, hG⟩ : ∃ g, g = X1.heap.size := ⟨_, rfl⟩
              obtain ⟨X2, hX2⟩ : ∃ x, x = X1.alloc (.cells ztr 28) := ⟨_, rfl⟩
              have hs2 : Below X1.heap.size X1 X2 := by rw [hX2]; exact (Below.refl _ _).alloc (Nat.le_refl _) _
              have zz2 : Whole X2 G 28 ztr := by rw [hX2, hG]; exact Whole.here _ _ _
              have b2 : Below p.heap.size p X2 := b1.trans (hs2.mono b1.size)
              have hgl : p.heap.size ≤ G := by rw [hG]; exact b1.size
              have oH2 := own_below oH1 hs2 (Nat.le_refl _)
              have oM2 := OwnM.below oM1 hs2 (Nat.le_refl _)
              have hsx2 : X0.heap.size ≤ X2.heap.size := Nat.le_trans hsx1 hs2.size
              have z2 := zz2
              go_simp
              rw [ztr_lit, ← hG, ← hX2]
              clear hX2 hG
              refine hKK.out _ _ (trivial) (fun hHeld => ?_)
              clear hKK KK
              (try simp only [sq])
              refine wpAnyH_ready (rs := [3]) (by kernel_rfl) (by simp) ?_
              refine AllReadyH.cons rfl (fun KK hKK => ?_) AllReadyH.nil
              (try simp only [sq])
              have hby := Whole.bytes (Whole.below HK.out b2 (by omega)) (by omega)
              rw [hK] at hby
              go_simp
              go_at_call 44
              refine (ref_hmac _ _ K (boxw ++ Hh) _ _ X2 hby oM2.bytes (by omega) (by rw [List.length_append]; have : boxw.length = 3 := rfl; omega)).mono ?_
              rintro e X3 ⟨rfl, hs3⟩
              rw [← HT.out]
              have b3 : Below p.heap.size p X3 := b2.trans (hs3.mono b2.size)
              have z3 : Whole X3 G 28 ztr := Whole.below z2 hs3 z2.lt
              have oH3 := own_below oH2 hs3 (Nat.le_refl _)
              have hsx3 : X0.heap.size ≤ X3.heap.size := Nat.le_trans hsx2 hs3.size
              refine hKK.out _ _ (trivial) (fun hHeld => ?_)
              clear hKK KK
              (try simp only [sq])
              refine wpAnyH_ready (rs := [5]) (by kernel_rfl) (by simp) ?_
              refine AllReadyH.cons rfl (fun KK hKK => ?_) AllReadyH.nil
              (try simp only [sq])
              obtain ⟨X4, hX4⟩ : ∃ x, x = X3.setRow G (T.map byt).toArray := ⟨_, rfl⟩
              have t4 : TGRow X4 G T := by rw [hX4]; exact Whole.setRow z3 _
              have b4 : Below p.heap.size p X4 := by rw [hX4]; exact below_setRow b3 hgl _
              have hsx4 : X0.heap.size ≤ X4.heap.size := by rw [hX4]; exact Nat.le_trans hsx3 (below_setRow (B := 0) (Below.refl 0 _) (Nat.zero_le _) _).size
              have oH4 : Own X4 W0.heap.size v3 Hh := by rw [hX4]; exact own_setRow oH3 z3 _
              rw [if_pos (by kernel_rfl)]
              refine wp_store_row 28 _ _ rfl G _ rfl rfl 28 _ z3 (by rw [tagSize, tag_size hTl]) (by rw [ztr_size, tag_size hTl]) (tag_one _) ?_
              rw [← hX4]
              clear hX4
              refine hKK.out _ _ (trivial) (fun hHeld => ?_)
              clear hKK KK
              (try simp only [sq])
              refine wpAnyH_done (by kernel_rfl) ?_ _
              have hbyT := Whole.bytes t4 (by omega)
              rw [hTl] at hbyT
              have hwx : W0.heap.size ≤ X4.heap.size := Nat.le_trans hw4 hsx4
              have hTl2 : Hh.length + T.length ≤ 100000 := by omega
              clear hHeld
              go_wp2_with (at_builtin; refine wpList_append_bytes rfl _ _ rfl W0.heap.size v3 Hh rfl oH4 _ _ T rfl hbyT (by omega) hwx ?_; intro v9 X9 o9 hb9)
              rw [hbxe] at o9
              obtain ⟨D, dc, rfl, -⟩ := id (Bytes.of_own o9)
              go_meet
              exact ⟨D, dc, rfl, (Bytes.of_own o9).mono (fun g _ h => by have h : W0.heap.size ≤ g := h; omega), b4.trans (hb9.mono hpw0)⟩
          · (try simp only [sq])
            obtain ⟨G, hG⟩ : ∃ g, g = X0.heap.size := ⟨_, rfl⟩
            obtain ⟨X1, hX1⟩ : ∃ x, x = X0.alloc (.cells ztr 28) := ⟨_, rfl⟩
            have hs1 : Below X0.heap.size X0 X1 := by rw [hX1]; exact (Below.refl _ _).alloc (Nat.le_refl _) _
            have zz1 : Whole X1 G 28 ztr := by rw [hX1, hG]; exact Whole.here _ _ _
            have b1 : Below p.heap.size p X1 := c0.trans (hs1.mono c0.size)
            have hgl : p.heap.size ≤ G := by rw [hG]; exact c0.size
            have oH1 := own_below oH0 hs1 (Nat.le_refl _)
            have hsx1 : X0.heap.size ≤ X1.heap.size := hs1.size
            have z1 := zz1
            go_simp
            rw [ztr_lit, ← hG, ← hX1]
            clear hX1 hG
            refine hKK.out _ _ (trivial) (fun hHeld => ?_)
            clear hKK KK
            (try simp only [sq])
            refine wpAnyH_ready (rs := [2]) (by kernel_rfl) (by simp) ?_
            refine AllReadyH.cons rfl (fun KK hKK => ?_) AllReadyH.nil
            (try simp only [sq])
            go_simp
            go_at_call 66
            refine (rword { data := #[98, 111, 120] } (by decide) v3 Hh _ X1 (Bytes.of_own oH1) (by omega) (by omega)).mono ?_
            rintro e X2 ⟨vM, rfl, oM0, hs2⟩
            have b2 : Below p.heap.size p X2 := b1.trans (hs2.mono b1.size)
            have z2 : Whole X2 G 28 ztr := Whole.below z1 hs2 z1.lt
            have oH2 := own_below oH1 hs2 (Nat.le_refl _)
            have hsx2 : X0.heap.size ≤ X2.heap.size := Nat.le_trans hsx1 hs2.size
            rw [sbytes_boxw] at oM0
            have oM2 := oM0
            refine hKK.out _ _ (trivial) (fun hHeld => ?_)
            clear hKK KK
            (try simp only [sq])
            refine wpAnyH_ready (rs := [3]) (by kernel_rfl) (by simp) ?_
            refine AllReadyH.cons rfl (fun KK hKK => ?_) AllReadyH.nil
            (try simp only [sq])
            have hby := Whole.bytes (Whole.below HK.out b2 (by omega)) (by omega)
            rw [hK] at hby
            go_simp
            go_at_call 44
            refine (ref_hmac _ _ K (boxw ++ Hh) _ _ X2 hby oM2.bytes (by omega) (by rw [List.length_append]; have : boxw.length = 3 := rfl; omega)).mono ?_
            rintro e X3 ⟨rfl, hs3⟩
            rw [← HT.out]
            have b3 : Below p.heap.size p X3 := b2.trans (hs3.mono b2.size)
            have z3 : Whole X3 G 28 ztr := Whole.below z2 hs3 z2.lt
            have oH3 := own_below oH2 hs3 (Nat.le_refl _)
            have hsx3 : X0.heap.size ≤ X3.heap.size := Nat.le_trans hsx2 hs3.size
            refine hKK.out _ _ (trivial) (fun hHeld => ?_)
            clear hKK KK
            (try simp only [sq])
            refine wpAnyH_ready (rs := [5]) (by kernel_rfl) (by simp) ?_
            refine AllReadyH.cons rfl (fun KK hKK => ?_) AllReadyH.nil
            (try simp only [sq])
            obtain ⟨X4, hX4⟩ : ∃ x, x = X3.setRow G (T.map byt).toArray := ⟨_, rfl⟩
            have t4 : TGRow X4 G T := by rw [hX4]; exact Whole.setRow z3 _
            have b4 : Below p.heap.size p X4 := by rw [hX4]; exact below_setRow b3 hgl _
            have hsx4 : X0.heap.size ≤ X4.heap.size := by rw [hX4]; exact Nat.le_trans hsx3 (below_setRow (B := 0) (Below.refl 0 _) (Nat.zero_le _) _).size
            have oH4 : Own X4 W0.heap.size v3 Hh := by rw [hX4]; exact own_setRow oH3 z3 _
            rw [if_pos (by kernel_rfl)]
            refine wp_store_row 28 _ _ rfl G _ rfl rfl 28 _ z3 (by rw [tagSize, tag_size hTl]) (by rw [ztr_size, tag_size hTl]) (tag_one _) ?_
            rw [← hX4]
            clear hX4
            refine hKK.out _ _ (trivial) (fun hHeld => ?_)
            clear hKK KK
            (try simp only [sq])
            refine wpAnyH_done (by kernel_rfl) ?_ _
            have hbyT := Whole.bytes t4 (by omega)
            rw [hTl] at hbyT
            have hwx : W0.heap.size ≤ X4.heap.size := Nat.le_trans hw4 hsx4
            have hTl2 : Hh.length + T.length ≤ 100000 := by omega
            clear hHeld
            go_wp2_with (at_builtin; refine wpList_append_bytes rfl _ _ rfl W0.heap.size v3 Hh rfl oH4 _ _ T rfl hbyT (by omega) hwx ?_; intro v9 X9 o9 hb9)
            rw [hbxe] at o9
            obtain ⟨D, dc, rfl, -⟩ := id (Bytes.of_own o9)
            go_meet
            exact ⟨D, dc, rfl, (Bytes.of_own o9).mono (fun g _ h => by have h : W0.heap.size ≤ g := h; omega), b4.trans (hb9.mono hpw0)⟩
      case rest =>
        obtain ⟨D, dc, rfl, hbx, hbc⟩ := hcut
        have hp3 : p.heap.size ≤ wc.heap.size := hbc.size
        have hbl : bx.length ≤ 5000 := by have := HBL.out; have := HMN.out; omega
        have hmn := HMN.out
        have HB3 := Lib.hid hbc
        have HU3 : Hid (Below w.heap.size w wc) := Lib.hid (HB.out.trans (hbc.mono (by omega)))
        have HRU := Lib.hid (Whole.below HR.out hbc (by omega))
        have HBXB := Lib.hid hbx
        obtain ⟨L1, hL1, hS1, hB1⟩ := HBX.out
        have hL1l : L1.length = j := by rw [HNB.out, ← hL1, List.length_map]
        have HL1 := Lib.hid hL1
        have HS1 := Lib.hid hS1
        have HB1 := Lib.hid hB1
        have HL1L := Lib.hid hL1l
        have HLN : Hid (a.boxes.length < 1000) := Lib.hid (by have := HNB.out; omega)
        have hKl : (K.map byt).length = 32 := by rw [List.length_map, hK]
        have hzq : i64q (zn : Int) := by have := HZ.out.1; exact ⟨by omega, by omega⟩
        have HZQ := Lib.hid hzq
        clear hL1 hS1 hB1 hL1l hbx hbc hzq
        have HCC : Hid (∀ W, Below wc.heap.size wc W → W.cell? ⟨w.heap.size, 35, none⟩ = some (.slice Ab j cb) ∧ W.rangeAt (w.heap.size + 1) 0 (K.map byt)) := Lib.hid fun W hb => ⟨(ALRow.cells (Whole.below HRU.out hb (by omega))).2.2.2, TGRow.range (Whole.below (Whole.below HK.out HB3.out (by omega)) hb (by omega))⟩
        clear c35 hc0
        go_upto_region 20 with fail
        go_cut [] (fun wx => ∃ (A5 : Option Addr) (c5 : Nat) (DM : Option Addr) (dcm : Nat), ALRow wx w.heap.size a.free a.seed a.fresh (.slice Am a.macs.length cm) (.slice A5 (L1.length + 1) c5) ∧ Seq bcl bok wx (fun g => p.heap.size ≤ g) A5 c5 (L1 ++ [⟨⟨K, (zn : Int), m, bx⟩, DM, dcm, D, dc⟩]) ∧ Bytes wx (fun b => p.heap.size ≤ b) (.slice DM m.length dcm) m ∧ Bytes wx (fun b => p.heap.size ≤ b) (.slice D bx.length dc) bx ∧ Whole wx (w.heap.size + 1 + 1) 32 zar ∧ p.heap.size ≤ wx.heap.size ∧ Below w.heap.size w wx)
        case first =>
          have b0 : Below wc.heap.size wc wc.drew := (Below.refl _ _).drew
          refine wp_region_G (fun W : World => W.cell? ⟨w.heap.size, 35, none⟩ = some (.slice Ab j cb) ∧ W.rangeAt (w.heap.size + 1) 0 (K.map byt)) (fun _ => True) [14] (by kernel_rfl) ?_
          generalize wc.drew = W0 at b0 ⊢
          have hHeld : (fun W : World => W.cell? ⟨w.heap.size, 35, none⟩ = some (.slice Ab j cb) ∧ W.rangeAt (w.heap.size + 1) 0 (K.map byt)) W0 := HCC.out _ b0
          apply AnyG_pure (i := 1) rfl (by kernel_rfl) (by kernel_rfl) (by kernel_rfl) (by kernel_rfl)
          case hQ => exact fun _ _ _ h => h
          case hB => exact trivial
          case hC => exact .inr hHeld
          case hy => (refine Or.inl ⟨by rfl, ?_⟩; intro w hSw; (try go_split_ands); go_simp; (try with_reducible rfl))
          (try simp only [sq])
          apply AnyG_take (i := 2) rfl (by kernel_rfl) (by kernel_rfl) (by kernel_rfl) (by kernel_rfl)
          case hQ => exact fun _ _ _ h => h
          case hB => exact trivial
          case hC => exact hHeld
          case hy => (refine Or.inl ⟨by rfl, ?_⟩; intro w hSw; (try go_split_ands); go_simp; (try with_reducible rfl))
          (try simp only [sq])
          apply AnyG_take (i := 4) rfl (by kernel_rfl) (by kernel_rfl) (by kernel_rfl) (by kernel_rfl)
          case hQ => exact fun _ _ _ h => h
          case hB => exact trivial
          case hC => exact hHeld
          case hy => exact yieldsIf_load_mid (by rfl) 28 _ rfl (w.heap.size + 1) (0) rfl (K.map byt) _ (fun w hS => hS.2) Tryd.underlying28 rfl (by rw [tagSize, hKl])
          (try simp only [sq])
          apply AnyG_pure (i := 5) rfl (by kernel_rfl) (by kernel_rfl) (by kernel_rfl) (by kernel_rfl)
          case hQ => exact fun _ _ _ h => h
          case hB => exact trivial
          case hC => exact .inr hHeld
          case hy => (refine Or.inl ⟨by rfl, ?_⟩; intro w hSw; (try go_split_ands); go_simp; (try with_reducible rfl))
          (try simp only [sq])
          apply AnyG_pure (i := 7) rfl (by kernel_rfl) (by kernel_rfl) (by kernel_rfl) (by kernel_rfl)
          case hQ => exact fun _ _ _ h => h
          case hB => exact trivial
          case hC => exact .inr hHeld
          case hy => (refine Or.inl ⟨by rfl, ?_⟩; intro w hSw; (try go_split_ands); go_simp; (try with_reducible rfl))
          (try simp only [sq])
          apply AnyG_pure (i := 9) rfl (by kernel_rfl) (by kernel_rfl) (by kernel_rfl) (by kernel_rfl)
          case hQ => exact fun _ _ _ h => h
          case hB => exact trivial
          case hC => exact .inr hHeld
          case hy => (refine Or.inl ⟨by rfl, ?_⟩; intro w hSw; (try go_split_ands); go_simp; (try with_reducible rfl))
          (try simp only [sq])
          refine AnyG_two (i := 0) (j := 6) (by kernel_rfl) rfl rfl (fun KK hKK => ?_) (fun KK hKK => ?_)
          · skip
            (try simp only [sq])
            obtain ⟨g0, hg⟩ : ∃ g, g = W0.heap.size := ⟨_, rfl⟩
            obtain ⟨W1, hW⟩ : ∃ x, x = W0.alloc (.cells #[] 92) := ⟨_, rfl⟩
            have b1 : Below wc.heap.size wc W1 := by rw [hW]; exact b0.alloc b0.size _
            have oM1 : OwnBc W1 wc.heap.size (.slice (some ⟨g0, 0, none⟩) 0 0) [] := owns_empty (by rw [hW, hg]; exact heap_alloc_new _ _) (by rw [hg]; exact b0.size)
            go_simp
            rw [← hg, ← hW]
            clear hg hW
            clear hHeld
            have hHeld : (fun W : World => W.cell? ⟨w.heap.size, 35, none⟩ = some (.slice Ab j cb) ∧ W.rangeAt (w.heap.size + 1) 0 (K.map byt)) W1 := HCC.out _ b1
            refine hKK.out _ _ (.inr hHeld) trivial ?_
            clear hKK KK
            (try simp only [sq])
            refine AnyG_two (i := 3) (j := 6) (by kernel_rfl) rfl rfl (fun KK hKK => ?_) (fun KK hKK => ?_)
            · skip
              refine step_append_seq (by rfl) _ _ 30 92 zbox 88 (by rfl) Tryd.underlying30 boxInfo zbox_size (by omega) (by omega) bcl_len bcl_one wc.heap.size _ [] (by rfl) oM1 Q Ab j cb L1 HL1L.out (by rfl) (HS1.out.below (HU3.out.trans (b1.mono HU3.out.size)) (Nat.le_refl _)) (by have := HL1L.out; simp only [List.length_nil]; omega) b1.size ?_
              intro vM W2 oM0 hbn hgn
              have oM2 : OwnBc W2 wc.heap.size vM L1 := by rw [List.nil_append] at oM0; exact oM0
              have b2 := b1.trans hbn
              clear hbn hgn
              clear hHeld
              have hHeld : (fun W : World => W.cell? ⟨w.heap.size, 35, none⟩ = some (.slice Ab j cb) ∧ W.rangeAt (w.heap.size + 1) 0 (K.map byt)) W2 := HCC.out _ b2
              refine hKK.out _ _ (.inr hHeld) trivial ?_
              clear hKK KK
              (try simp only [sq])
              refine AnyG_one (i := 6) (by kernel_rfl) rfl (fun KK hKK => ?_)
              (try simp only [sq])
              obtain ⟨g6, hg⟩ : ∃ g, g = W2.heap.size := ⟨_, rfl⟩
              obtain ⟨W3, hW⟩ : ∃ x, x = W2.alloc (.cells #[] 5) := ⟨_, rfl⟩
              have b3 : Below wc.heap.size wc W3 := by rw [hW]; exact b2.alloc b2.size _
              have oB3 : OwnBf W3 wc.heap.size (.slice (some ⟨g6, 0, none⟩) 0 0) [] := owns_empty (by rw [hW, hg]; exact heap_alloc_new _ _) (by rw [hg]; exact b2.size)
              have oM3 := oM2.alloc (.cells #[] 5)
              rw [← hW] at oM3
              go_simp
              rw [← hg, ← hW]
              clear hg hW
              clear hHeld
              have hHeld : (fun W : World => W.cell? ⟨w.heap.size, 35, none⟩ = some (.slice Ab j cb) ∧ W.rangeAt (w.heap.size + 1) 0 (K.map byt)) W3 := HCC.out _ b3
              refine hKK.out _ _ (.inr hHeld) trivial ?_
              clear hKK KK
              (try simp only [sq])
              refine AnyG_one (i := 8) (by kernel_rfl) rfl (fun KK hKK => ?_)
              refine step_append_seq (by rfl) _ _ 23 5 (.int .u8 0) 1 (by rfl) Tryd.underlying23 byteInfo byte_size (by omega) (by omega) bf_len bf_one wc.heap.size _ [] (by rfl) oB3 Q2 B m.length d m rfl (by rfl) (seq_bytes (HM.out.below (HU3.out.trans (b3.mono HU3.out.size)) (Nat.le_refl _))) (by simp only [List.length_nil]; omega) b3.size ?_
              intro vB W4 oB0 hbn hgn
              have oB4 : OwnBf W4 wc.heap.size vB m := by rw [List.nil_append] at oB0; exact oB0
              have oM4 := oM3.kept hgn (own_ne oM3 oB3 box_ne_u8)
              obtain ⟨DM, dcm, rfl, hsB⟩ := OwnS.seq (ok := fun _ => True) oB4 (fun _ _ => trivial)
              have b4 := b3.trans hbn
              clear hbn hgn hsB
              clear hHeld
              have hHeld : (fun W : World => W.cell? ⟨w.heap.size, 35, none⟩ = some (.slice Ab j cb) ∧ W.rangeAt (w.heap.size + 1) 0 (K.map byt)) W4 := HCC.out _ b4
              refine hKK.out _ _ (.inr hHeld) trivial ?_
              clear hKK KK
              (try simp only [sq])
              apply AnyG_pure (i := 10) rfl (by kernel_rfl) (by kernel_rfl) (by kernel_rfl) (by kernel_rfl)
              case hQ => exact fun _ _ _ h => h
              case hB => exact trivial
              case hC => exact .inr hHeld
              case hy => exact yieldsIf_build_box (by rfl) _ _ _ _ rfl (e := ⟨K, (zn : Int), m, bx⟩) hK rfl rfl rfl rfl
              (try simp only [sq])
              refine AnyG_one (i := 11) (by kernel_rfl) rfl (fun KK hKK => ?_)
              have hXok : bok (⟨⟨K, (zn : Int), m, bx⟩, DM, dcm, D, dc⟩ : BxM) := ⟨hK, HZQ.out, by show m.length ≤ 5000; omega, by show bx.length ≤ 5000; omega⟩
              obtain ⟨g11, hg⟩ : ∃ g, g = W4.heap.size := ⟨_, rfl⟩
              obtain ⟨W5, hW⟩ : ∃ x, x = W4.alloc (.cells (bcl (⟨⟨K, (zn : Int), m, bx⟩, DM, dcm, D, dc⟩ : BxM)).toArray 92) := ⟨_, rfl⟩
              have b5 : Below wc.heap.size wc W5 := by rw [hW]; exact b4.alloc b4.size _
              have hx1 : Whole W5 g11 92 (bcl (⟨⟨K, (zn : Int), m, bx⟩, DM, dcm, D, dc⟩ : BxM)).toArray := by rw [hW, hg]; exact Whole.here _ _ _
              have oM5 := oM4.alloc (.cells (bcl (⟨⟨K, (zn : Int), m, bx⟩, DM, dcm, D, dc⟩ : BxM)).toArray 92)
              rw [← hW] at oM5
              have oB5 := oB4.alloc (.cells (bcl (⟨⟨K, (zn : Int), m, bx⟩, DM, dcm, D, dc⟩ : BxM)).toArray 92)
              rw [← hW] at oB5
              refine step_buildSlice_box (by rfl) _ (by rfl) (X := (⟨⟨K, (zn : Int), m, bx⟩, DM, dcm, D, dc⟩ : BxM)) (by rfl) ?_
              rw [← hg, ← hW]
              clear hg hW
              clear hHeld
              have hHeld : (fun W : World => W.cell? ⟨w.heap.size, 35, none⟩ = some (.slice Ab j cb) ∧ W.rangeAt (w.heap.size + 1) 0 (K.map byt)) W5 := HCC.out _ b5
              refine hKK.out _ _ (.inr hHeld) trivial ?_
              clear hKK KK
              (try simp only [sq])
              refine AnyG_one (i := 12) (by kernel_rfl) rfl (fun KK hKK => ?_)
              refine step_append_seq (by rfl) _ _ 30 92 zbox 88 (by rfl) Tryd.underlying30 boxInfo zbox_size (by omega) (by omega) bcl_len bcl_one wc.heap.size _ L1 (by rfl) oM5 _ (some ⟨g11, 0, none⟩) 1 1 [(⟨⟨K, (zn : Int), m, bx⟩, DM, dcm, D, dc⟩ : BxM)] rfl (by rfl) (seq_one hx1 rfl hXok) (by have := HL1L.out; have := HLN.out; simp only [List.length_singleton]; omega) b5.size ?_
              intro vN W6 oM6 hbn hgn
              have oB6 := oB5.kept hgn (own_ne oB5 oM5 u8_ne_box)
              have b6 := b5.trans hbn
              obtain ⟨A5, c5, rfl, hS5⟩ := OwnS.seq (ok := bok) oM6 (fun x hx => by
                rcases List.mem_append.1 hx with h | h
                · exact HS1.out.2.2.2.1 x h
                · rw [List.mem_singleton.1 h]; exact hXok)
              obtain ⟨D2, dc2, he2, hsB⟩ := OwnS.seq (ok := fun _ => True) oB6 (fun _ _ => trivial)
              injection he2 with q1 q2 q3
              subst q1 q3
              have hV := bytes_seq hsB
              have hn5 : (L1 ++ [(⟨⟨K, (zn : Int), m, bx⟩, DM, dcm, D, dc⟩ : BxM)]).length = L1.length + 1 := by simp
              rw [hn5]
              clear hbn hgn q2 hsB hn5
              clear hHeld
              have hHeld : (fun W : World => W.cell? ⟨w.heap.size, 35, none⟩ = some (.slice Ab j cb) ∧ W.rangeAt (w.heap.size + 1) 0 (K.map byt)) W6 := HCC.out _ b6
              refine hKK.out _ _ (.inr hHeld) trivial ?_
              clear hKK KK
              (try simp only [sq])
              apply AnyG_pure (i := 13) rfl (by kernel_rfl) (by kernel_rfl) (by kernel_rfl) (by kernel_rfl)
              case hQ => exact fun _ _ _ h => h
              case hB => exact trivial
              case hC => exact .inr hHeld
              case hy => (refine Or.inl ⟨by rfl, ?_⟩; intro w hSw; (try go_split_ands); go_simp; (try with_reducible rfl))
              (try simp only [sq])
              refine AnyG_one (i := 14) (by kernel_rfl) rfl (fun KK hKK => ?_)
              (try simp only [sq])
              have hrW := Whole.below HRU.out b6 (by omega)
              have hf35 := ALRow.frees hrW 35
              have hc35 := hHeld.1
              obtain ⟨W7, hW⟩ : ∃ x, x = W6.setCell ⟨w.heap.size, 35, none⟩ (.slice A5 (L1.length + 1) c5) := ⟨_, rfl⟩
              have r1 := ALRow.set35 hrW (.slice A5 (L1.length + 1) c5)
              have r2 := (hS5.mono (Q' := fun g => p.heap.size ≤ g) fun g _ h => Nat.le_trans hp3 h).keep (w' := W7) (by rw [hW]; exact ((Below.refl 0 _).setCell (p := ⟨w.heap.size, 35, none⟩) (Nat.zero_le _) _).size) (fun g _ h => by rw [hW]; exact heap_setCell_other _ ⟨w.heap.size, 35, none⟩ g _ (by show g ≠ w.heap.size; omega))
              have r3 := (hV.mono (Q' := fun g => p.heap.size ≤ g) fun g _ h => Nat.le_trans hp3 h).keep (w' := W7) (fun g _ h => by rw [hW]; exact heap_setCell_other _ ⟨w.heap.size, 35, none⟩ g _ (by show g ≠ w.heap.size; omega))
              have r4 := (HBXB.out.below b6 (Nat.le_refl _)).keep (w' := W7) (fun g _ h => by rw [hW]; exact heap_setCell_other _ ⟨w.heap.size, 35, none⟩ g _ (by show g ≠ w.heap.size; have h : p.heap.size ≤ g := h; omega))
              have r5 := Whole.far (Whole.below (Whole.below H8.out HB3.out (by omega)) b6 (by omega)) (a := ⟨w.heap.size, 35, none⟩) (by show _ ≠ w.heap.size; omega) (.slice A5 (L1.length + 1) c5)
              have r7 := (HU3.out.trans (b6.mono HU3.out.size)).setCell (p := ⟨w.heap.size, 35, none⟩) (Nat.le_refl _) (.slice A5 (L1.length + 1) c5)
              have r6 : p.heap.size ≤ W7.heap.size := by rw [hW]; exact Nat.le_trans hp3 (Nat.le_trans b6.size ((Below.refl 0 _).setCell (p := ⟨w.heap.size, 35, none⟩) (Nat.zero_le _) _).size)
              rw [← hW] at r1 r5 r7
              go_simp
              rw [← hW]
              clear hW
              refine hKK.out _ _ (.inl (by kernel_rfl)) trivial ?_
              clear hKK KK
              (try simp only [sq])
              refine AnyG_done (by kernel_rfl) ?_ _
              go_wp2_with fail
              go_meet
              exact ⟨A5, c5, DM, dcm, r1, r2, r3, r4, r5, r6, r7⟩
            · skip
              (try simp only [sq])
              obtain ⟨g6, hg⟩ : ∃ g, g = W1.heap.size := ⟨_, rfl⟩
              obtain ⟨W2, hW⟩ : ∃ x, x = W1.alloc (.cells #[] 5) := ⟨_, rfl⟩
              have b2 : Below wc.heap.size wc W2 := by rw [hW]; exact b1.alloc b1.size _
              have oB2 : OwnBf W2 wc.heap.size (.slice (some ⟨g6, 0, none⟩) 0 0) [] := owns_empty (by rw [hW, hg]; exact heap_alloc_new _ _) (by rw [hg]; exact b1.size)
              have oM2 := oM1.alloc (.cells #[] 5)
              rw [← hW] at oM2
              go_simp
              rw [← hg, ← hW]
              clear hg hW
              clear hHeld
              have hHeld : (fun W : World => W.cell? ⟨w.heap.size, 35, none⟩ = some (.slice Ab j cb) ∧ W.rangeAt (w.heap.size + 1) 0 (K.map byt)) W2 := HCC.out _ b2
              refine hKK.out _ _ (.inr hHeld) trivial ?_
              clear hKK KK
              (try simp only [sq])
              refine AnyG_one (i := 3) (by kernel_rfl) rfl (fun KK hKK => ?_)
              refine step_append_seq (by rfl) _ _ 30 92 zbox 88 (by rfl) Tryd.underlying30 boxInfo zbox_size (by omega) (by omega) bcl_len bcl_one wc.heap.size _ [] (by rfl) oM2 Q Ab j cb L1 HL1L.out (by rfl) (HS1.out.below (HU3.out.trans (b2.mono HU3.out.size)) (Nat.le_refl _)) (by have := HL1L.out; simp only [List.length_nil]; omega) b2.size ?_
              intro vM W3 oM0 hbn hgn
              have oM3 : OwnBc W3 wc.heap.size vM L1 := by rw [List.nil_append] at oM0; exact oM0
              have oB3 := oB2.kept hgn (own_ne oB2 oM2 u8_ne_box)
              have b3 := b2.trans hbn
              clear hbn hgn
              clear hHeld
              have hHeld : (fun W : World => W.cell? ⟨w.heap.size, 35, none⟩ = some (.slice Ab j cb) ∧ W.rangeAt (w.heap.size + 1) 0 (K.map byt)) W3 := HCC.out _ b3
              refine hKK.out _ _ (.inr hHeld) trivial ?_
              clear hKK KK
              (try simp only [sq])
              refine AnyG_one (i := 8) (by kernel_rfl) rfl (fun KK hKK => ?_)
              refine step_append_seq (by rfl) _ _ 23 5 (.int .u8 0) 1 (by rfl) Tryd.underlying23 byteInfo byte_size (by omega) (by omega) bf_len bf_one wc.heap.size _ [] (by rfl) oB3 Q2 B m.length d m rfl (by rfl) (seq_bytes (HM.out.below (HU3.out.trans (b3.mono HU3.out.size)) (Nat.le_refl _))) (by simp only [List.length_nil]; omega) b3.size ?_
              intro vB W4 oB0 hbn hgn
              have oB4 : OwnBf W4 wc.heap.size vB m := by rw [List.nil_append] at oB0; exact oB0
              have oM4 := oM3.kept hgn (own_ne oM3 oB3 box_ne_u8)
              obtain ⟨DM, dcm, rfl, hsB⟩ := OwnS.seq (ok := fun _ => True) oB4 (fun _ _ => trivial)
              have b4 := b3.trans hbn
              clear hbn hgn hsB
              clear hHeld
              have hHeld : (fun W : World => W.cell? ⟨w.heap.size, 35, none⟩ = some (.slice Ab j cb) ∧ W.rangeAt (w.heap.size + 1) 0 (K.map byt)) W4 := HCC.out _ b4
              refine hKK.out _ _ (.inr hHeld) trivial ?_
              clear hKK KK
              (try simp only [sq])
              apply AnyG_pure (i := 10) rfl (by kernel_rfl) (by kernel_rfl) (by kernel_rfl) (by kernel_rfl)
              case hQ => exact fun _ _ _ h => h
              case hB => exact trivial
              case hC => exact .inr hHeld
              case hy => exact yieldsIf_build_box (by rfl) _ _ _ _ rfl (e := ⟨K, (zn : Int), m, bx⟩) hK rfl rfl rfl rfl
              (try simp only [sq])
              refine AnyG_one (i := 11) (by kernel_rfl) rfl (fun KK hKK => ?_)
              have hXok : bok (⟨⟨K, (zn : Int), m, bx⟩, DM, dcm, D, dc⟩ : BxM) := ⟨hK, HZQ.out, by show m.length ≤ 5000; omega, by show bx.length ≤ 5000; omega⟩
              obtain ⟨g11, hg⟩ : ∃ g, g = W4.heap.size := ⟨_, rfl⟩
              obtain ⟨W5, hW⟩ : ∃ x, x = W4.alloc (.cells (bcl (⟨⟨K, (zn : Int), m, bx⟩, DM, dcm, D, dc⟩ : BxM)).toArray 92) := ⟨_, rfl⟩
              have b5 : Below wc.heap.size wc W5 := by rw [hW]; exact b4.alloc b4.size _
              have hx1 : Whole W5 g11 92 (bcl (⟨⟨K, (zn : Int), m, bx⟩, DM, dcm, D, dc⟩ : BxM)).toArray := by rw [hW, hg]; exact Whole.here _ _ _
              have oM5 := oM4.alloc (.cells (bcl (⟨⟨K, (zn : Int), m, bx⟩, DM, dcm, D, dc⟩ : BxM)).toArray 92)
              rw [← hW] at oM5
              have oB5 := oB4.alloc (.cells (bcl (⟨⟨K, (zn : Int), m, bx⟩, DM, dcm, D, dc⟩ : BxM)).toArray 92)
              rw [← hW] at oB5
              refine step_buildSlice_box (by rfl) _ (by rfl) (X := (⟨⟨K, (zn : Int), m, bx⟩, DM, dcm, D, dc⟩ : BxM)) (by rfl) ?_
              rw [← hg, ← hW]
              clear hg hW
              clear hHeld
              have hHeld : (fun W : World => W.cell? ⟨w.heap.size, 35, none⟩ = some (.slice Ab j cb) ∧ W.rangeAt (w.heap.size + 1) 0 (K.map byt)) W5 := HCC.out _ b5
              refine hKK.out _ _ (.inr hHeld) trivial ?_
              clear hKK KK
              (try simp only [sq])
              refine AnyG_one (i := 12) (by kernel_rfl) rfl (fun KK hKK => ?_)
              refine step_append_seq (by rfl) _ _ 30 92 zbox 88 (by rfl) Tryd.underlying30 boxInfo zbox_size (by omega) (by omega) bcl_len bcl_one wc.heap.size _ L1 (by rfl) oM5 _ (some ⟨g11, 0, none⟩) 1 1 [(⟨⟨K, (zn : Int), m, bx⟩, DM, dcm, D, dc⟩ : BxM)] rfl (by rfl) (seq_one hx1 rfl hXok) (by have := HL1L.out; have := HLN.out; simp only [List.length_singleton]; omega) b5.size ?_
              intro vN W6 oM6 hbn hgn
              have oB6 := oB5.kept hgn (own_ne oB5 oM5 u8_ne_box)
              have b6 := b5.trans hbn
              obtain ⟨A5, c5, rfl, hS5⟩ := OwnS.seq (ok := bok) oM6 (fun x hx => by
                rcases List.mem_append.1 hx with h | h
                · exact HS1.out.2.2.2.1 x h
                · rw [List.mem_singleton.1 h]; exact hXok)
              obtain ⟨D2, dc2, he2, hsB⟩ := OwnS.seq (ok := fun _ => True) oB6 (fun _ _ => trivial)
              injection he2 with q1 q2 q3
              subst q1 q3
              have hV := bytes_seq hsB
              have hn5 : (L1 ++ [(⟨⟨K, (zn : Int), m, bx⟩, DM, dcm, D, dc⟩ : BxM)]).length = L1.length + 1 := by simp
              rw [hn5]
              clear hbn hgn q2 hsB hn5
              clear hHeld
              have hHeld : (fun W : World => W.cell? ⟨w.heap.size, 35, none⟩ = some (.slice Ab j cb) ∧ W.rangeAt (w.heap.size + 1) 0 (K.map byt)) W6 := HCC.out _ b6
              refine hKK.out _ _ (.inr hHeld) trivial ?_
              clear hKK KK
              (try simp only [sq])
              apply AnyG_pure (i := 13) rfl (by kernel_rfl) (by kernel_rfl) (by kernel_rfl) (by kernel_rfl)
              case hQ => exact fun _ _ _ h => h
              case hB => exact trivial
              case hC => exact .inr hHeld
              case hy => (refine Or.inl ⟨by rfl, ?_⟩; intro w hSw; (try go_split_ands); go_simp; (try with_reducible rfl))
              (try simp only [sq])
              refine AnyG_one (i := 14) (by kernel_rfl) rfl (fun KK hKK => ?_)
              (try simp only [sq])
              have hrW := Whole.below HRU.out b6 (by omega)
              have hf35 := ALRow.frees hrW 35
              have hc35 := hHeld.1
              obtain ⟨W7, hW⟩ : ∃ x, x = W6.setCell ⟨w.heap.size, 35, none⟩ (.slice A5 (L1.length + 1) c5) := ⟨_, rfl⟩
              have r1 := ALRow.set35 hrW (.slice A5 (L1.length + 1) c5)
              have r2 := (hS5.mono (Q' := fun g => p.heap.size ≤ g) fun g _ h => Nat.le_trans hp3 h).keep (w' := W7) (by rw [hW]; exact ((Below.refl 0 _).setCell (p := ⟨w.heap.size, 35, none⟩) (Nat.zero_le _) _).size) (fun g _ h => by rw [hW]; exact heap_setCell_other _ ⟨w.heap.size, 35, none⟩ g _ (by show g ≠ w.heap.size; omega))
              have r3 := (hV.mono (Q' := fun g => p.heap.size ≤ g) fun g _ h => Nat.le_trans hp3 h).keep (w' := W7) (fun g _ h => by rw [hW]; exact heap_setCell_other _ ⟨w.heap.size, 35, none⟩ g _ (by show g ≠ w.heap.size; omega))
              have r4 := (HBXB.out.below b6 (Nat.le_refl _)).keep (w' := W7) (fun g _ h => by rw [hW]; exact heap_setCell_other _ ⟨w.heap.size, 35, none⟩ g _ (by show g ≠ w.heap.size; have h : p.heap.size ≤ g := h; omega))
              have r5 := Whole.far (Whole.below (Whole.below H8.out HB3.out (by omega)) b6 (by omega)) (a := ⟨w.heap.size, 35, none⟩) (by show _ ≠ w.heap.size; omega) (.slice A5 (L1.length + 1) c5)
              have r7 := (HU3.out.trans (b6.mono HU3.out.size)).setCell (p := ⟨w.heap.size, 35, none⟩) (Nat.le_refl _) (.slice A5 (L1.length + 1) c5)
              have r6 : p.heap.size ≤ W7.heap.size := by rw [hW]; exact Nat.le_trans hp3 (Nat.le_trans b6.size ((Below.refl 0 _).setCell (p := ⟨w.heap.size, 35, none⟩) (Nat.zero_le _) _).size)
              rw [← hW] at r1 r5 r7
              go_simp
              rw [← hW]
              clear hW
              refine hKK.out _ _ (.inl (by kernel_rfl)) trivial ?_
              clear hKK KK
              (try simp only [sq])
              refine AnyG_done (by kernel_rfl) ?_ _
              go_wp2_with fail
              go_meet
              exact ⟨A5, c5, DM, dcm, r1, r2, r3, r4, r5, r6, r7⟩
          · skip
            (try simp only [sq])
            obtain ⟨g6, hg⟩ : ∃ g, g = W0.heap.size := ⟨_, rfl⟩
            obtain ⟨W1, hW⟩ : ∃ x, x = W0.alloc (.cells #[] 5) := ⟨_, rfl⟩
            have b1 : Below wc.heap.size wc W1 := by rw [hW]; exact b0.alloc b0.size _
            have oB1 : OwnBf W1 wc.heap.size (.slice (some ⟨g6, 0, none⟩) 0 0) [] := owns_empty (by rw [hW, hg]; exact heap_alloc_new _ _) (by rw [hg]; exact b0.size)
            go_simp
            rw [← hg, ← hW]
            clear hg hW
            clear hHeld
            have hHeld : (fun W : World => W.cell? ⟨w.heap.size, 35, none⟩ = some (.slice Ab j cb) ∧ W.rangeAt (w.heap.size + 1) 0 (K.map byt)) W1 := HCC.out _ b1
            refine hKK.out _ _ (.inr hHeld) trivial ?_
            clear hKK KK
            (try simp only [sq])
            refine AnyG_one (i := 0) (by kernel_rfl) rfl (fun KK hKK => ?_)
            (try simp only [sq])
            obtain ⟨g0, hg⟩ : ∃ g, g = W1.heap.size := ⟨_, rfl⟩
            obtain ⟨W2, hW⟩ : ∃ x, x = W1.alloc (.cells #[] 92) := ⟨_, rfl⟩
            have b2 : Below wc.heap.size wc W2 := by rw [hW]; exact b1.alloc b1.size _
            have oM2 : OwnBc W2 wc.heap.size (.slice (some ⟨g0, 0, none⟩) 0 0) [] := owns_empty (by rw [hW, hg]; exact heap_alloc_new _ _) (by rw [hg]; exact b1.size)
            have oB2 := oB1.alloc (.cells #[] 92)
            rw [← hW] at oB2
            go_simp
            rw [← hg, ← hW]
            clear hg hW
            clear hHeld
            have hHeld : (fun W : World => W.cell? ⟨w.heap.size, 35, none⟩ = some (.slice Ab j cb) ∧ W.rangeAt (w.heap.size + 1) 0 (K.map byt)) W2 := HCC.out _ b2
            refine hKK.out _ _ (.inr hHeld) trivial ?_
            clear hKK KK
            (try simp only [sq])
            refine AnyG_one (i := 3) (by kernel_rfl) rfl (fun KK hKK => ?_)
            refine step_append_seq (by rfl) _ _ 30 92 zbox 88 (by rfl) Tryd.underlying30 boxInfo zbox_size (by omega) (by omega) bcl_len bcl_one wc.heap.size _ [] (by rfl) oM2 Q Ab j cb L1 HL1L.out (by rfl) (HS1.out.below (HU3.out.trans (b2.mono HU3.out.size)) (Nat.le_refl _)) (by have := HL1L.out; simp only [List.length_nil]; omega) b2.size ?_
            intro vM W3 oM0 hbn hgn
            have oM3 : OwnBc W3 wc.heap.size vM L1 := by rw [List.nil_append] at oM0; exact oM0
            have oB3 := oB2.kept hgn (own_ne oB2 oM2 u8_ne_box)
            have b3 := b2.trans hbn
            clear hbn hgn
            clear hHeld
            have hHeld : (fun W : World => W.cell? ⟨w.heap.size, 35, none⟩ = some (.slice Ab j cb) ∧ W.rangeAt (w.heap.size + 1) 0 (K.map byt)) W3 := HCC.out _ b3
            refine hKK.out _ _ (.inr hHeld) trivial ?_
            clear hKK KK
            (try simp only [sq])
            refine AnyG_one (i := 8) (by kernel_rfl) rfl (fun KK hKK => ?_)
            refine step_append_seq (by rfl) _ _ 23 5 (.int .u8 0) 1 (by rfl) Tryd.underlying23 byteInfo byte_size (by omega) (by omega) bf_len bf_one wc.heap.size _ [] (by rfl) oB3 Q2 B m.length d m rfl (by rfl) (seq_bytes (HM.out.below (HU3.out.trans (b3.mono HU3.out.size)) (Nat.le_refl _))) (by simp only [List.length_nil]; omega) b3.size ?_
            intro vB W4 oB0 hbn hgn
            have oB4 : OwnBf W4 wc.heap.size vB m := by rw [List.nil_append] at oB0; exact oB0
            have oM4 := oM3.kept hgn (own_ne oM3 oB3 box_ne_u8)
            obtain ⟨DM, dcm, rfl, hsB⟩ := OwnS.seq (ok := fun _ => True) oB4 (fun _ _ => trivial)
            have b4 := b3.trans hbn
            clear hbn hgn hsB
            clear hHeld
            have hHeld : (fun W : World => W.cell? ⟨w.heap.size, 35, none⟩ = some (.slice Ab j cb) ∧ W.rangeAt (w.heap.size + 1) 0 (K.map byt)) W4 := HCC.out _ b4
            refine hKK.out _ _ (.inr hHeld) trivial ?_
            clear hKK KK
            (try simp only [sq])
            apply AnyG_pure (i := 10) rfl (by kernel_rfl) (by kernel_rfl) (by kernel_rfl) (by kernel_rfl)
            case hQ => exact fun _ _ _ h => h
            case hB => exact trivial
            case hC => exact .inr hHeld
            case hy => exact yieldsIf_build_box (by rfl) _ _ _ _ rfl (e := ⟨K, (zn : Int), m, bx⟩) hK rfl rfl rfl rfl
            (try simp only [sq])
            refine AnyG_one (i := 11) (by kernel_rfl) rfl (fun KK hKK => ?_)
            have hXok : bok (⟨⟨K, (zn : Int), m, bx⟩, DM, dcm, D, dc⟩ : BxM) := ⟨hK, HZQ.out, by show m.length ≤ 5000; omega, by show bx.length ≤ 5000; omega⟩
            obtain ⟨g11, hg⟩ : ∃ g, g = W4.heap.size := ⟨_, rfl⟩
            obtain ⟨W5, hW⟩ : ∃ x, x = W4.alloc (.cells (bcl (⟨⟨K, (zn : Int), m, bx⟩, DM, dcm, D, dc⟩ : BxM)).toArray 92) := ⟨_, rfl⟩
            have b5 : Below wc.heap.size wc W5 := by rw [hW]; exact b4.alloc b4.size _
            have hx1 : Whole W5 g11 92 (bcl (⟨⟨K, (zn : Int), m, bx⟩, DM, dcm, D, dc⟩ : BxM)).toArray := by rw [hW, hg]; exact Whole.here _ _ _
            have oM5 := oM4.alloc (.cells (bcl (⟨⟨K, (zn : Int), m, bx⟩, DM, dcm, D, dc⟩ : BxM)).toArray 92)
            rw [← hW] at oM5
            have oB5 := oB4.alloc (.cells (bcl (⟨⟨K, (zn : Int), m, bx⟩, DM, dcm, D, dc⟩ : BxM)).toArray 92)
            rw [← hW] at oB5
            refine step_buildSlice_box (by rfl) _ (by rfl) (X := (⟨⟨K, (zn : Int), m, bx⟩, DM, dcm, D, dc⟩ : BxM)) (by rfl) ?_
            rw [← hg, ← hW]
            clear hg hW
            clear hHeld
            have hHeld : (fun W : World => W.cell? ⟨w.heap.size, 35, none⟩ = some (.slice Ab j cb) ∧ W.rangeAt (w.heap.size + 1) 0 (K.map byt)) W5 := HCC.out _ b5
            refine hKK.out _ _ (.inr hHeld) trivial ?_
            clear hKK KK
            (try simp only [sq])
            refine AnyG_one (i := 12) (by kernel_rfl) rfl (fun KK hKK => ?_)
            refine step_append_seq (by rfl) _ _ 30 92 zbox 88 (by rfl) Tryd.underlying30 boxInfo zbox_size (by omega) (by omega) bcl_len bcl_one wc.heap.size _ L1 (by rfl) oM5 _ (some ⟨g11, 0, none⟩) 1 1 [(⟨⟨K, (zn : Int), m, bx⟩, DM, dcm, D, dc⟩ : BxM)] rfl (by rfl) (seq_one hx1 rfl hXok) (by have := HL1L.out; have := HLN.out; simp only [List.length_singleton]; omega) b5.size ?_
            intro vN W6 oM6 hbn hgn
            have oB6 := oB5.kept hgn (own_ne oB5 oM5 u8_ne_box)
            have b6 := b5.trans hbn
            obtain ⟨A5, c5, rfl, hS5⟩ := OwnS.seq (ok := bok) oM6 (fun x hx => by
              rcases List.mem_append.1 hx with h | h
              · exact HS1.out.2.2.2.1 x h
              · rw [List.mem_singleton.1 h]; exact hXok)
            obtain ⟨D2, dc2, he2, hsB⟩ := OwnS.seq (ok := fun _ => True) oB6 (fun _ _ => trivial)
            injection he2 with q1 q2 q3
            subst q1 q3
            have hV := bytes_seq hsB
            have hn5 : (L1 ++ [(⟨⟨K, (zn : Int), m, bx⟩, DM, dcm, D, dc⟩ : BxM)]).length = L1.length + 1 := by simp
            rw [hn5]
            clear hbn hgn q2 hsB hn5
            clear hHeld
            have hHeld : (fun W : World => W.cell? ⟨w.heap.size, 35, none⟩ = some (.slice Ab j cb) ∧ W.rangeAt (w.heap.size + 1) 0 (K.map byt)) W6 := HCC.out _ b6
            refine hKK.out _ _ (.inr hHeld) trivial ?_
            clear hKK KK
            (try simp only [sq])
            apply AnyG_pure (i := 13) rfl (by kernel_rfl) (by kernel_rfl) (by kernel_rfl) (by kernel_rfl)
            case hQ => exact fun _ _ _ h => h
            case hB => exact trivial
            case hC => exact .inr hHeld
            case hy => (refine Or.inl ⟨by rfl, ?_⟩; intro w hSw; (try go_split_ands); go_simp; (try with_reducible rfl))
            (try simp only [sq])
            refine AnyG_one (i := 14) (by kernel_rfl) rfl (fun KK hKK => ?_)
            (try simp only [sq])
            have hrW := Whole.below HRU.out b6 (by omega)
            have hf35 := ALRow.frees hrW 35
            have hc35 := hHeld.1
            obtain ⟨W7, hW⟩ : ∃ x, x = W6.setCell ⟨w.heap.size, 35, none⟩ (.slice A5 (L1.length + 1) c5) := ⟨_, rfl⟩
            have r1 := ALRow.set35 hrW (.slice A5 (L1.length + 1) c5)
            have r2 := (hS5.mono (Q' := fun g => p.heap.size ≤ g) fun g _ h => Nat.le_trans hp3 h).keep (w' := W7) (by rw [hW]; exact ((Below.refl 0 _).setCell (p := ⟨w.heap.size, 35, none⟩) (Nat.zero_le _) _).size) (fun g _ h => by rw [hW]; exact heap_setCell_other _ ⟨w.heap.size, 35, none⟩ g _ (by show g ≠ w.heap.size; omega))
            have r3 := (hV.mono (Q' := fun g => p.heap.size ≤ g) fun g _ h => Nat.le_trans hp3 h).keep (w' := W7) (fun g _ h => by rw [hW]; exact heap_setCell_other _ ⟨w.heap.size, 35, none⟩ g _ (by show g ≠ w.heap.size; omega))
            have r4 := (HBXB.out.below b6 (Nat.le_refl _)).keep (w' := W7) (fun g _ h => by rw [hW]; exact heap_setCell_other _ ⟨w.heap.size, 35, none⟩ g _ (by show g ≠ w.heap.size; have h : p.heap.size ≤ g := h; omega))
            have r5 := Whole.far (Whole.below (Whole.below H8.out HB3.out (by omega)) b6 (by omega)) (a := ⟨w.heap.size, 35, none⟩) (by show _ ≠ w.heap.size; omega) (.slice A5 (L1.length + 1) c5)
            have r7 := (HU3.out.trans (b6.mono HU3.out.size)).setCell (p := ⟨w.heap.size, 35, none⟩) (Nat.le_refl _) (.slice A5 (L1.length + 1) c5)
            have r6 : p.heap.size ≤ W7.heap.size := by rw [hW]; exact Nat.le_trans hp3 (Nat.le_trans b6.size ((Below.refl 0 _).setCell (p := ⟨w.heap.size, 35, none⟩) (Nat.zero_le _) _).size)
            rw [← hW] at r1 r5 r7
            go_simp
            rw [← hW]
            clear hW
            refine hKK.out _ _ (.inl (by kernel_rfl)) trivial ?_
            clear hKK KK
            (try simp only [sq])
            refine AnyG_done (by kernel_rfl) ?_ _
            go_wp2_with fail
            go_meet
            exact ⟨A5, c5, DM, dcm, r1, r2, r3, r4, r5, r6, r7⟩
        case rest =>
          obtain ⟨A5, c5, DM, dcm, hr, hS5, hV, hV2, h8, hp9, hbw⟩ := hcut
          rename World => w9
          have HS5 := Lib.hid (hS5.keep (w' := w9.drew) (Nat.le_refl _) fun _ _ _ => rfl)
          have HV := Lib.hid hV.drew
          have HV2 := Lib.hid hV2.drew
          have hr0 : ALRow w9.drew w.heap.size a.free a.seed a.fresh (.slice Am a.macs.length cm) (.slice A5 (L1.length + 1) c5) := Whole.drew hr
          have h80 : Whole w9.drew (w.heap.size + 1 + 1) 32 zar := Whole.drew h8
          have HBF : Hid (Below w.heap.size w w9.drew) := Lib.hid hbw.drew
          have hp1w0 : p.heap.size ≤ w9.drew.heap.size := hp9
          clear hr hS5 hV hV2 h8 hbw hp9
          go_upto_region 21 with fail
          refine wp_region_held_drew (S := fun W : World => W.rangeAt w.heap.size 0 (alcl a.free a.seed a.fresh (.slice Am a.macs.length cm) (.slice A5 (L1.length + 1) c5))) (by kernel_rfl) (Whole.range hr0) (fun hHeld => ?_)
          generalize w9.drew = W0 at hr0 h80 HBF HS5 HV HV2 hp1w0 hHeld ⊢
          have HCC : Hid (∀ W, Below W0.heap.size W0 W → (fun W : World => W.rangeAt w.heap.size 0 (alcl a.free a.seed a.fresh (.slice Am a.macs.length cm) (.slice A5 (L1.length + 1) c5))) W) := Lib.hid fun W hb => Whole.range (Whole.below hr0 hb hr0.lt)
          apply wpT (i := 0) rfl (by kernel_rfl)
          case hQ => exact fun _ _ _ h => h
          case hS => exact hHeld
          case hy => exact yieldsIf_load_mid (by rfl) 32 _ rfl w.heap.size (0) rfl (alcl a.free a.seed a.fresh (.slice Am a.macs.length cm) (.slice A5 (L1.length + 1) c5)) _ (fun w hS => hS) Tryd.underlying32 rfl (by rw [algSize, alcl_length])
          (try simp only [sq])
          apply wpT (i := 2) rfl (by kernel_rfl)
          case hQ => exact fun _ _ _ h => h
          case hS => exact hHeld
          case hy => (refine Or.inl ⟨by rfl, ?_⟩; intro w hSw; (try go_split_ands); go_simp; (try with_reducible rfl))
          (try simp only [sq])
          refine wpAnyH_ready (rs := [1]) (by kernel_rfl) (by simp) ?_
          refine AllReadyH.cons rfl (fun KK hKK => ?_) AllReadyH.nil
          (try simp only [sq])
          obtain ⟨g5, hg5⟩ : ∃ g, g = W0.heap.size := ⟨_, rfl⟩
          obtain ⟨W1, hW1⟩ : ∃ x, x = W0.alloc (.cells #[] 5) := ⟨_, rfl⟩
          have own0 : OwnBf W1 W0.heap.size (.slice (some ⟨g5, 0, none⟩) 0 0) [] := owns_empty (by rw [hW1, hg5]; exact heap_alloc_new _ _) (by rw [hg5]; exact Nat.le_refl _)
          have s1 : Below W0.heap.size W0 W1 := by rw [hW1]; exact (Below.refl _ _).alloc (Nat.le_refl _) _
          go_simp
          rw [← hg5, ← hW1]
          clear hg5 hW1
          refine hKK.out _ _ (HCC.out _ s1) (fun hHeld => ?_)
          clear hKK KK
          (try simp only [sq])
          refine wpAnyH_ready (rs := [3]) (by kernel_rfl) (by simp) ?_
          refine AllReadyH.cons rfl (fun KK hKK => ?_) AllReadyH.nil
          refine step_append_bytes (by rfl) _ _ (by rfl) W0.heap.size _ [] (by rfl) (bf_own own0) _ _ bx (by rfl) (HV2.out.below s1 (Nat.le_refl _)) (by simp only [List.length_nil]; omega) s1.size ?_
          intro vN W2 oN hs2
          rw [List.nil_append] at oN
          have s2 : Below W0.heap.size W0 W2 := s1.trans hs2
          refine hKK.out _ _ (HCC.out _ s2) (fun hHeld => ?_)
          clear hKK KK
          (try simp only [sq])
          refine wpAnyH_ready (rs := [4]) (by kernel_rfl) (by simp) ?_
          refine AllReadyH.cons rfl (fun KK hKK => ?_) AllReadyH.nil
          (try simp only [sq])
          obtain ⟨W3, hW3⟩ : ∃ x, x = W2.setRow (w.heap.size + 1 + 1) (alcl a.free a.seed a.fresh (.slice Am a.macs.length cm) (.slice A5 (L1.length + 1) c5)).toArray := ⟨_, rfl⟩
          have h8w := Whole.below h80 s2 h80.lt
          have e1 : Whole W3 (w.heap.size + 1 + 1) 32 (alc a.free a.seed a.fresh (.slice Am a.macs.length cm) (.slice A5 (L1.length + 1) c5)) := by rw [hW3]; exact Whole.setRow h8w _
          have hbf : Below w.heap.size w W3 := by rw [hW3]; exact below_setRow (HBF.out.trans (s2.mono HBF.out.size)) (by omega) _
          have hV : Bytes W3 (fun g => w.heap.size ≤ g) vN bx := ((Bytes.of_own oN).keep (fun b _ hb => by rw [hW3]; exact setRow_other _ _ b _ (by have : W0.heap.size ≤ b := hb; omega))).mono fun b _ hb => by have : W0.heap.size ≤ b := hb; omega
          have kp : ∀ b, b < W0.heap.size → p.heap.size ≤ b → W3.heap[b]? = W0.heap[b]? := fun b hb hq => by rw [hW3]; exact (setRow_other _ _ b _ (by omega)).trans (s2.block b hb)
          have szk : W0.heap.size ≤ W3.heap.size := by rw [hW3]; exact Nat.le_trans s2.size (below_setRow (B := 0) (Below.refl 0 _) (Nat.zero_le _) _).size
          rw [if_pos (by kernel_rfl)]
          refine wp_store_row 32 _ _ rfl (w.heap.size + 1 + 1) _ rfl rfl 32 _ h8w (by rw [algSize, List.size_toArray, alcl_length]) (by rw [zar_size, List.size_toArray, alcl_length]) (alc_one _ _ _ _ _ _ _ _ _) ?_
          rw [← hW3]
          have hS3 : (fun W : World => W.rangeAt w.heap.size 0 (alcl a.free a.seed a.fresh (.slice Am a.macs.length cm) (.slice A5 (L1.length + 1) c5))) W3 := by rw [hW3]; exact Whole.range (Whole.setRow_far (Whole.below hr0 s2 hr0.lt) (by omega) _)
          clear hW3
          refine hKK.out _ _ (hS3) (fun hHeld => ?_)
          clear hKK KK
          (try simp only [sq])
          apply wpT (i := 5) rfl (by kernel_rfl)
          case hQ => exact fun _ _ _ h => h
          case hS => exact hHeld
          case hy => (refine Or.inl ⟨by rfl, ?_⟩; intro w hSw; (try go_split_ands); go_simp; (try with_reducible rfl))
          (try simp only [sq])
          apply wpT (i := 6) rfl (by kernel_rfl)
          case hQ => exact fun _ _ _ h => h
          case hS => exact hHeld
          case hy => (refine Or.inl ⟨by rfl, ?_⟩; intro w hSw; (try go_split_ands); go_simp; (try with_reducible rfl))
          (try simp only [sq])
          refine wpAnyH_done (by kernel_rfl) ?_ _
          clear hHeld
          go_wp2_with fail
          refine bodyPost_ret (results_algb Tryd.results32 _ rfl _ rfl _ rfl (alc_size _ _ _ _ _) e1) rfl ?_
          show SeR _ _ _ _ R ∧ _
          rw [HRR.out]
          exact ⟨⟨_, _, rfl, (by
              have h := alv_moreb (w := w) (Q := Q) (a := a) (X := (⟨⟨K, (zn : Int), m, bx⟩, DM, dcm, D, dc⟩ : BxM)) HL1.out (fun x hx => ⟨((HB1.out x hx).1.below hbf (Nat.le_refl _)).mono fun _ _ h => .inl h, ((HB1.out x hx).2.below hbf (Nat.le_refl _)).mono fun _ _ h => .inl h⟩) ((HS5.out.keep szk kp).mono fun g _ h => (by have h : p.heap.size ≤ g := h; omega : w.heap.size ≤ g)) ((HV.out.keep kp).mono fun g _ h => (by have h : p.heap.size ≤ g := h; omega : w.heap.size ≤ g)) ((HV2.out.keep kp).mono fun g _ h => (by have h : p.heap.size ≤ g := h; omega : w.heap.size ≤ g)) (HMC.out.below hbf (Nat.le_refl _)) HA.out HLN.out
              rw [show (L1 ++ [(⟨⟨K, (zn : Int), m, bx⟩, DM, dcm, D, dc⟩ : BxM)]).length = L1.length + 1 by simp] at h
              exact h), hV⟩, hbf⟩
    obtain ⟨e, he⟩ : ∃ e, a.boxes[j]? = some e := ⟨_, List.getElem?_eq_getElem (by have := HNB.out; omega)⟩
    obtain ⟨g, o, D, dc, D1, dc1, rfl, hq, hg, hrow, -, hby, hbx, hk32, hnc, hp5, hb5⟩ := Bxs.get ((HBX.out.below HB.out (Nat.le_refl _)).below HBW.out (Nat.le_refl _)) j e he
    have HS := Lib.hid (fndb_drop he K z m)
    have HBY := Lib.hid hby
    have HBO := Lib.hid hbx
    have HT := Lib.hid (And.intro hp5 hb5)
    have HNC := Lib.hid hnc
    obtain ⟨X, hX⟩ : ∃ X : BxM, X = ⟨e, D, dc, D1, dc1⟩ := ⟨_, rfl⟩
    rw [← hX] at hrow
    have HXE := Lib.hid hX
    have hXl := bcl_len X
    have hXs : (bcl X).toArray.size = 35 := by rw [List.size_toArray, hXl]
    have j0 : (0 : Int) ≤ (j : Int) := by omega
    have jn : (j : Int) < (nb : Int) := by omega
    clear he hby hbx hq hnc hp5 hb5 hX
    go_upto_region 9 with (first
      | (with_reducible refine wpList_load_mid rfl 92 _ rfl g (o + j * 35) rfl _ _ hrow Tryd.underlying92 rfl (by rw [boxSize, hXl]) ?_)
      | (with_reducible refine wpList_store_row rfl 92 _ _ rfl wr.heap.size _ rfl rfl 92 _ (heap_alloc_new wr _) (by rw [boxSize, hXs]) (by rw [hXs]; with_unfolding_all rfl) (all_oneCell_toArray (bcl_one X)) ?_))
    rw [zbr_lit]
    obtain ⟨u, hu⟩ : ∃ x, x = (wr.alloc (.cells zbr 92)).setRow wr.heap.size (bcl X).toArray := ⟨_, rfl⟩
    have hxr : Whole u wr.heap.size 92 (bcl X).toArray := by rw [hu]; exact Whole.setRow (Whole.here _ _ _) _
    have hbu : Below wr.heap.size wr u := by rw [hu]; exact below_setRow ((Below.refl _ _).alloc (Nat.le_refl _) _) (Nat.le_refl _) _
    rw [← hu]
    clear hu hrow
    have hwu : wr.heap.size < u.heap.size := hxr.lt
    have HBU : Hid (Below p.heap.size p u) := Lib.hid (HBW.out.trans (hbu.mono hpw))
    have HWU := Lib.hid hbu
    have k1 : u.rangeAt wr.heap.size 0 (e.key.map byt) := by
      have := BXRow.key hxr (by rw [HXE.out]; exact hk32); rw [HXE.out] at this; exact this
    have k2 : u.rangeAt (w.heap.size + 1) 0 (K.map byt) := TGRow.range (Whole.below HK.out HBU.out (by omega))
    obtain ⟨n1, p1, b1⟩ : u.cell? ⟨wr.heap.size, 32, none⟩ = some (.int .i64 e.nonce) ∧ u.cell? ⟨wr.heap.size, 33, none⟩ = some (.slice D e.plain.length dc) ∧ u.cell? ⟨wr.heap.size, 34, none⟩ = some (.slice D1 e.box.length dc1) := by
      have := BXRow.cells hxr; rw [HXE.out] at this; exact this
    have HXR := Lib.hid hxr
    have hqq := fun W => run_eql_tag hk32 hK W
    have hkl : (e.key.map byt).length = 32 := by rw [List.length_map, hk32]
    have hKl : (K.map byt).length = 32 := by rw [List.length_map, hK]
    clear hxr hbu c35 b1
    by_cases hke : e.key = K
    case neg =>
      rw [decide_eq_false hke] at hqq
      have HXN : Hid (fndb (a.boxes.drop (j + 1)) K z m = f) := Lib.hid (by have := HS.out; rw [HF.out, if_neg (fun q => hke q.1)] at this; exact this.symm)
      go_wp2_with (first
        | (with_reducible refine wpList_load_mid rfl 28 _ rfl wr.heap.size 0 rfl _ _ k1 Tryd.underlying28 rfl (by rw [tagSize, hkl]) ?_)
        | (with_reducible refine wpList_load_mid rfl 28 _ rfl (w.heap.size + 1) 0 rfl _ _ k2 Tryd.underlying28 rfl (by rw [tagSize, hKl]) ?_))
      go_roundw
      case rel => exact ⟨j + 1, by go_num, by omega, HXN.out, HBU.out⟩
      case measure => simp [intOf]; omega
    rw [decide_eq_true hke] at hqq
    have HKe := Lib.hid hke
    clear hke
    by_cases hne : e.nonce = z
    case neg =>
      have hne2 : ¬ z = e.nonce := fun q => hne q.symm
      have HXN : Hid (fndb (a.boxes.drop (j + 1)) K z m = f) := Lib.hid (by have := HS.out; rw [HF.out, if_neg (fun q => hne q.2.1)] at this; exact this.symm)
      go_wp2_with (first
        | (with_reducible refine wpList_load_mid rfl 28 _ rfl wr.heap.size 0 rfl _ _ k1 Tryd.underlying28 rfl (by rw [tagSize, hkl]) ?_)
        | (with_reducible refine wpList_load_mid rfl 28 _ rfl (w.heap.size + 1) 0 rfl _ _ k2 Tryd.underlying28 rfl (by rw [tagSize, hKl]) ?_))
      go_roundw
      case rel => exact ⟨j + 1, by go_num, by omega, HXN.out, HBU.out⟩
      case measure => simp [intOf]; omega
    rw [hne] at n1
    have HKE := Lib.hid (And.intro HKe.out hne)
    clear hne
    go_wp2_with (first
      | (with_reducible refine wpList_load_mid rfl 28 _ rfl wr.heap.size 0 rfl _ _ k1 Tryd.underlying28 rfl (by rw [tagSize, hkl]) ?_)
      | (with_reducible refine wpList_load_mid rfl 28 _ rfl (w.heap.size + 1) 0 rfl _ _ k2 Tryd.underlying28 rfl (by rw [tagSize, hKl]) ?_))
    refine (same_ _ _ e.plain m _ _ u (HBY.out.below HWU.out (Nat.le_refl _)) ((HM.out.below HB.out (Nat.le_refl _)).below HBU.out (Nat.le_refl _)) (by have := HT.out.1; omega) (by omega)).mono ?_
    rintro e1 w1 ⟨rfl, hw1⟩
    have HB1 : Hid (Below p.heap.size p w1) := Lib.hid (HBU.out.trans (hw1.mono HBU.out.size))
    have hp1w : p.heap.size ≤ w1.heap.size := HB1.out.size
    have HU1 := Lib.hid hw1
    clear hw1 k1 k2 n1 p1 hqq
    by_cases hem : e.plain = m
    case neg =>
      rw [decide_eq_false hem]
      have HXN : Hid (fndb (a.boxes.drop (j + 1)) K z m = f) := Lib.hid (by have := HS.out; rw [HF.out, if_neg (fun q => hem q.2.2)] at this; exact this.symm)
      go_wp2_with fail
      go_roundw
      case rel => exact ⟨j + 1, by go_num, by omega, HXN.out, HB1.out⟩
      case measure => simp [intOf]; omega
    rw [decide_eq_true hem]
    have hfe : f = some e.box := by have := HS.out; rw [HF.out, if_pos ⟨HKE.out.1, HKE.out.2, hem⟩] at this; exact this
    have HRR : Hid (R = (a, e.box, 0)) := Lib.hid (by rw [HRR0.out, hfe])
    have HOB := Lib.hid ((HBO.out.below HWU.out (Nat.le_refl _)).below HU1.out (Nat.le_refl _))
    have hbl5 := HT.out.2
    clear hfe hem HRR0 HF HF0 HS
    go_upto_region 10 with fail
    have hr0 : ALRow w1.drew w.heap.size a.free a.seed a.fresh (.slice Am a.macs.length cm) (.slice (some ⟨g, o, none⟩) nb cb) := Whole.drew (Whole.below HR.out HB1.out (by omega))
    have h80 : Whole w1.drew (w.heap.size + 1 + 1) 32 zar := Whole.drew (Whole.below H8.out HB1.out (by omega))
    have hx0 : Whole w1.drew wr.heap.size 92 (bcl X).toArray := Whole.drew (Whole.below HXR.out HU1.out (by omega))
    have b34 : w1.drew.cell? ⟨wr.heap.size, 34, none⟩ = some (.slice D1 e.box.length dc1) := by
      have := (BXRow.cells hx0).2.2; rw [HXE.out] at this; exact this
    have b0 : Below w1.heap.size w1 w1.drew := (Below.refl _ _).drew
    have HOB0 := Lib.hid (HOB.out.below b0 (Nat.le_refl _))
    have hsz0 : w1.drew.heap.size = w1.heap.size := rfl
    have HBF : Hid (Below w.heap.size w w1.drew) := Lib.hid ((HB.out.trans (HB1.out.mono (by omega))).drew)
    have hwl : wr.heap.size < w1.drew.heap.size := hx0.lt
    have hp1w0 : p.heap.size ≤ w1.drew.heap.size := hp1w
    have HB34 : Hid (∀ W, Whole W wr.heap.size 92 (bcl X).toArray → W.cell? ⟨wr.heap.size, 34, none⟩ = some (.slice D1 e.box.length dc1)) := Lib.hid fun W h => by
      have := (BXRow.cells h).2.2; rw [HXE.out] at this; exact this
    refine wp_region_held_drew (S := fun W : World => W.rangeAt w.heap.size 0 (alcl a.free a.seed a.fresh (.slice Am a.macs.length cm) (.slice (some ⟨g, o, none⟩) nb cb)) ∧ W.cell? ⟨wr.heap.size, 34, none⟩ = some (.slice D1 e.box.length dc1)) (by kernel_rfl) (⟨Whole.range hr0, HB34.out _ hx0⟩) (fun hHeld => ?_)
    generalize w1.drew = W0 at hr0 h80 hx0 b34 HOB0 HBF hwl hp1w0 hHeld ⊢
    have HCC : Hid (∀ W, Below W0.heap.size W0 W → (fun W : World => W.rangeAt w.heap.size 0 (alcl a.free a.seed a.fresh (.slice Am a.macs.length cm) (.slice (some ⟨g, o, none⟩) nb cb)) ∧ W.cell? ⟨wr.heap.size, 34, none⟩ = some (.slice D1 e.box.length dc1)) W) := Lib.hid fun W hb => ⟨Whole.range (Whole.below hr0 hb hr0.lt), (hb.cell (p := ⟨wr.heap.size, 34, none⟩) hwl).trans b34⟩
    apply wpT (i := 0) rfl (by kernel_rfl)
    case hQ => exact fun _ _ _ h => h
    case hS => exact hHeld
    case hy => exact yieldsIf_load_mid (by rfl) 32 _ rfl w.heap.size (0) rfl (alcl a.free a.seed a.fresh (.slice Am a.macs.length cm) (.slice (some ⟨g, o, none⟩) nb cb)) _ (fun w hS => hS.1) Tryd.underlying32 rfl (by rw [algSize, alcl_length])
    (try simp only [sq])
    apply wpT (i := 2) rfl (by kernel_rfl)
    case hQ => exact fun _ _ _ h => h
    case hS => exact hHeld
    case hy => (refine Or.inl ⟨by rfl, ?_⟩; intro w hSw; (try go_split_ands); go_simp; (try with_reducible rfl))
    (try simp only [sq])
    apply wpT (i := 3) rfl (by kernel_rfl)
    case hQ => exact fun _ _ _ h => h
    case hS => exact hHeld
    case hy => (refine Or.inl ⟨by rfl, ?_⟩; intro w hSw; (try go_split_ands); go_simp; (try with_reducible rfl))
    (try simp only [sq])
    refine wpAnyH_ready (rs := [1]) (by kernel_rfl) (by simp) ?_
    refine AllReadyH.cons rfl (fun KK hKK => ?_) AllReadyH.nil
    (try simp only [sq])
    obtain ⟨g5, hg5⟩ : ∃ g, g = W0.heap.size := ⟨_, rfl⟩
    obtain ⟨W1, hW1⟩ : ∃ x, x = W0.alloc (.cells #[] 5) := ⟨_, rfl⟩
    have own0 : OwnBf W1 W0.heap.size (.slice (some ⟨g5, 0, none⟩) 0 0) [] := owns_empty (by rw [hW1, hg5]; exact heap_alloc_new _ _) (by rw [hg5]; exact Nat.le_refl _)
    have s1 : Below W0.heap.size W0 W1 := by rw [hW1]; exact (Below.refl _ _).alloc (Nat.le_refl _) _
    go_simp
    rw [← hg5, ← hW1]
    clear hg5 hW1
    refine hKK.out _ _ (HCC.out _ s1) (fun hHeld => ?_)
    clear hKK KK
    (try simp only [sq])
    refine wpAnyH_ready (rs := [4]) (by kernel_rfl) (by simp) ?_
    refine AllReadyH.cons rfl (fun KK hKK => ?_) AllReadyH.nil
    refine step_append_bytes (by rfl) _ _ (by rfl) W0.heap.size _ [] (by rfl) (bf_own own0) _ _ e.box (by rfl) (HOB0.out.below s1 (Nat.le_refl _)) (by simp only [List.length_nil]; omega) s1.size ?_
    intro vN W2 oN hs2
    rw [List.nil_append] at oN
    have s2 : Below W0.heap.size W0 W2 := s1.trans hs2
    refine hKK.out _ _ (HCC.out _ s2) (fun hHeld => ?_)
    clear hKK KK
    (try simp only [sq])
    refine wpAnyH_ready (rs := [5]) (by kernel_rfl) (by simp) ?_
    refine AllReadyH.cons rfl (fun KK hKK => ?_) AllReadyH.nil
    (try simp only [sq])
    obtain ⟨W3, hW3⟩ : ∃ x, x = W2.setRow (w.heap.size + 1 + 1) (alcl a.free a.seed a.fresh (.slice Am a.macs.length cm) (.slice (some ⟨g, o, none⟩) nb cb)).toArray := ⟨_, rfl⟩
    have h8w := Whole.below h80 s2 h80.lt
    have e1 : Whole W3 (w.heap.size + 1 + 1) 32 (alc a.free a.seed a.fresh (.slice Am a.macs.length cm) (.slice (some ⟨g, o, none⟩) nb cb)) := by rw [hW3]; exact Whole.setRow h8w _
    have hbf : Below w.heap.size w W3 := by rw [hW3]; exact below_setRow (HBF.out.trans (s2.mono HBF.out.size)) (by omega) _
    have hV : Bytes W3 (fun g => w.heap.size ≤ g) vN e.box := ((Bytes.of_own oN).keep (fun b _ hb => by rw [hW3]; exact setRow_other _ _ b _ (by have : W0.heap.size ≤ b := hb; omega))).mono fun b _ hb => by have : W0.heap.size ≤ b := hb; omega
    have kp : ∀ b, b < W0.heap.size → p.heap.size ≤ b → W3.heap[b]? = W0.heap[b]? := fun b hb hq => by rw [hW3]; exact (setRow_other _ _ b _ (by omega)).trans (s2.block b hb)
    have szk : W0.heap.size ≤ W3.heap.size := by rw [hW3]; exact Nat.le_trans s2.size (below_setRow (B := 0) (Below.refl 0 _) (Nat.zero_le _) _).size
    rw [if_pos (by kernel_rfl)]
    refine wp_store_row 32 _ _ rfl (w.heap.size + 1 + 1) _ rfl rfl 32 _ h8w (by rw [algSize, List.size_toArray, alcl_length]) (by rw [zar_size, List.size_toArray, alcl_length]) (alc_one _ _ _ _ _ _ _ _ _) ?_
    rw [← hW3]
    have hS3 : (fun W : World => W.rangeAt w.heap.size 0 (alcl a.free a.seed a.fresh (.slice Am a.macs.length cm) (.slice (some ⟨g, o, none⟩) nb cb)) ∧ W.cell? ⟨wr.heap.size, 34, none⟩ = some (.slice D1 e.box.length dc1)) W3 := by rw [hW3]; exact ⟨Whole.range (Whole.setRow_far (Whole.below hr0 s2 hr0.lt) (by omega) _), HB34.out _ (Whole.setRow_far (Whole.below hx0 s2 hx0.lt) (by omega) _)⟩
    clear hW3
    refine hKK.out _ _ (hS3) (fun hHeld => ?_)
    clear hKK KK
    (try simp only [sq])
    apply wpT (i := 6) rfl (by kernel_rfl)
    case hQ => exact fun _ _ _ h => h
    case hS => exact hHeld
    case hy => (refine Or.inl ⟨by rfl, ?_⟩; intro w hSw; (try go_split_ands); go_simp; (try with_reducible rfl))
    (try simp only [sq])
    apply wpT (i := 7) rfl (by kernel_rfl)
    case hQ => exact fun _ _ _ h => h
    case hS => exact hHeld
    case hy => (refine Or.inl ⟨by rfl, ?_⟩; intro w hSw; (try go_split_ands); go_simp; (try with_reducible rfl))
    (try simp only [sq])
    refine wpAnyH_done (by kernel_rfl) ?_ _
    clear hHeld
    go_wp2_with fail
    refine bodyPost_ret (results_algb Tryd.results32 _ rfl _ rfl _ rfl (alc_size _ _ _ _ _) e1) rfl ?_
    show SeR _ _ _ _ R ∧ _
    rw [HRR.out]
    exact ⟨⟨_, _, rfl, (HX.out.below hbf (Nat.le_refl _)).mono fun _ _ h => .inl h, hV⟩, hbf⟩
end Go.Proofs.YtiikhjifjdpgdaaDoor
namespace Go.Proofs.YtiikhjifjdpgdaaDoor
open Go Go.RowKit Sh Leaf
/-- What the loop keeps: the algebra in block G, k rounds to go. -/
def DalgI (g h G : Nat) (w : World) (k : Nat) (wr : World) : Prop := ∃ (a : Alg) (Am : Option Addr) (cm : Nat) (Ab : Option Addr) (cb : Nat), (a.macs.length + k ≤ 4 ∧ a.boxes.length + k ≤ 4 ∧ a.fresh + (k : Int) ≤ 4 ∧ GoodA a) ∧
  AlV wr (fun b => b ≠ g ∧ b ≠ G ∧ b ≠ h ∧ h ≤ b) (.agg (alc a.free a.seed a.fresh (.slice Am a.macs.length cm) (.slice Ab a.boxes.length cb))) a ∧ ALRow wr G a.free a.seed a.fresh (.slice Am a.macs.length cm) (.slice Ab a.boxes.length cb) ∧ Whole wr h 32 zar ∧ Turn g w wr
theorem DalgI.store {g h G k : Nat} {w w7 : World} {a : Alg} {Am Ab : Option Addr} {cm cb : Nat} {cs : Array Value} (hbd : a.macs.length + k ≤ 4 ∧ a.boxes.length + k ≤ 4 ∧ a.fresh + (k : Int) ≤ 4 ∧ GoodA a)
    (hav : AlV w7 (fun b => b ≠ g ∧ b ≠ G ∧ b ≠ h ∧ h ≤ b) (.agg (alc a.free a.seed a.fresh (.slice Am a.macs.length cm) (.slice Ab a.boxes.length cb))) a) (hr : Whole w7 G 32 cs) (hz : Whole w7 h 32 zar) (ht : Turn g w w7) (hg : g < w.heap.size) (hG : w.heap.size ≤ G) (hh : h ≠ G) :
    DalgI g h G w k (w7.setRow G (alc a.free a.seed a.fresh (.slice Am a.macs.length cm) (.slice Ab a.boxes.length cb))) :=
  ⟨a, Am, cm, Ab, cb, hbd, hav.keep (below_setRow (B := 0) (Below.refl 0 _) (Nat.zero_le _) _).size fun b _ hq => setRow_other _ _ b _ hq.2.1, Whole.setRow hr _, Whole.setRow_far hz hh _,
    ht.below (below_setRow (B := w.heap.size) (Below.refl _ _) hG _) hg (Nat.le_refl _)⟩
theorem aMac_next0 {a : Alg} {k : Nat} {K m : List B8} (hm : m.length ≤ 4096) (h : a.macs.length + (k + 1) ≤ 4 ∧ a.boxes.length + (k + 1) ≤ 4 ∧ a.fresh + ((k + 1 : Nat) : Int) ≤ 4) : (aMac a K m).1.macs.length + k ≤ 4 ∧ (aMac a K m).1.boxes.length + k ≤ 4 ∧ (aMac a K m).1.fresh + (k : Int) ≤ 4 := by
  unfold aMac
  rw [if_neg (by omega)]
  cases fnd a.macs K m with
  | some t => exact ⟨by show a.macs.length + k ≤ 4; omega, by show a.boxes.length + k ≤ 4; omega, by show a.fresh + (k : Int) ≤ 4; omega⟩
  | none =>
    simp only
    rw [if_neg (by omega)]
    exact ⟨by show (a.macs ++ [_]).length + k ≤ 4; rw [List.length_append]; simp only [List.length_singleton]; omega, by show a.boxes.length + k ≤ 4; omega, by show a.fresh + (k : Int) ≤ 4; omega⟩
theorem aMac_next {a : Alg} {k : Nat} {K m : List B8} (hm : m.length ≤ 4096) (h : a.macs.length + (k + 1) ≤ 4 ∧ a.boxes.length + (k + 1) ≤ 4 ∧ a.fresh + ((k + 1 : Nat) : Int) ≤ 4 ∧ GoodA a) : (aMac a K m).1.macs.length + k ≤ 4 ∧ (aMac a K m).1.boxes.length + k ≤ 4 ∧ (aMac a K m).1.fresh + (k : Int) ≤ 4 ∧ GoodA (aMac a K m).1 := by
  obtain ⟨h1, h2, h3⟩ := aMac_next0 hm ⟨h.1, h.2.1, h.2.2.1⟩
  exact ⟨h1, h2, h3, good_mac h.2.2.2⟩
theorem aSeal_next0 {a : Alg} {k : Nat} {K m : List B8} {z : Int} (hm : m.length ≤ 256) (hz : 0 ≤ z ∧ z ≤ 100) (h : a.macs.length + (k + 1) ≤ 4 ∧ a.boxes.length + (k + 1) ≤ 4 ∧ a.fresh + ((k + 1 : Nat) : Int) ≤ 4) : (aSeal a K z m).1.macs.length + k ≤ 4 ∧ (aSeal a K z m).1.boxes.length + k ≤ 4 ∧ (aSeal a K z m).1.fresh + (k : Int) ≤ 4 := by
  unfold aSeal
  rw [if_neg (by omega), if_neg (by omega)]
  cases fndb a.boxes K z m with
  | some t => exact ⟨by show a.macs.length + k ≤ 4; omega, by show a.boxes.length + k ≤ 4; omega, by show a.fresh + (k : Int) ≤ 4; omega⟩
  | none =>
    simp only
    rw [if_neg (by omega)]
    exact ⟨by show a.macs.length + k ≤ 4; omega, by show (a.boxes ++ [_]).length + k ≤ 4; rw [List.length_append]; simp only [List.length_singleton]; omega, by show a.fresh + (k : Int) ≤ 4; omega⟩
theorem aSeal_next {a : Alg} {k : Nat} {K m : List B8} {z : Int} (hm : m.length ≤ 256) (hz : 0 ≤ z ∧ z ≤ 100) (h : a.macs.length + (k + 1) ≤ 4 ∧ a.boxes.length + (k + 1) ≤ 4 ∧ a.fresh + ((k + 1 : Nat) : Int) ≤ 4 ∧ GoodA a) : (aSeal a K z m).1.macs.length + k ≤ 4 ∧ (aSeal a K z m).1.boxes.length + k ≤ 4 ∧ (aSeal a K z m).1.fresh + (k : Int) ≤ 4 ∧ GoodA (aSeal a K z m).1 := by
  obtain ⟨h1, h2, h3⟩ := aSeal_next0 hm hz ⟨h.1, h.2.1, h.2.2.1⟩
  exact ⟨h1, h2, h3, good_seal h.2.2.2⟩
theorem aKey_next0 {a : Alg} {k : Nat} (h : a.macs.length + (k + 1) ≤ 4 ∧ a.boxes.length + (k + 1) ≤ 4 ∧ a.fresh + ((k + 1 : Nat) : Int) ≤ 4) : (aKey a).1.macs.length + k ≤ 4 ∧ (aKey a).1.boxes.length + k ≤ 4 ∧ (aKey a).1.fresh + (k : Int) ≤ 4 := by
  unfold aKey
  rw [if_neg (by omega)]
  exact ⟨by show a.macs.length + k ≤ 4; omega, by show a.boxes.length + k ≤ 4; omega, by show a.fresh + 1 + (k : Int) ≤ 4; omega⟩
theorem aKey_next {a : Alg} {k : Nat} (h : a.macs.length + (k + 1) ≤ 4 ∧ a.boxes.length + (k + 1) ≤ 4 ∧ a.fresh + ((k + 1 : Nat) : Int) ≤ 4 ∧ GoodA a) : (aKey a).1.macs.length + k ≤ 4 ∧ (aKey a).1.boxes.length + k ≤ 4 ∧ (aKey a).1.fresh + (k : Int) ≤ 4 ∧ GoodA (aKey a).1 := by
  obtain ⟨h1, h2, h3⟩ := aKey_next0  ⟨h.1, h.2.1, h.2.2.1⟩
  exact ⟨h1, h2, h3, good_key h.2.2.2⟩
set_option linter.unusedSimpArgs false in
set_option linter.unusedVariables false in
set_option maxRecDepth 100000 in
set_option maxHeartbeats 8000000 in
theorem dalgs (g : Nat) (w : World) (h : Deck g w) :
    Calls Tryd.prog 10 #[.pointer (some ⟨g, 0, none⟩)] w fun e w' => (∃ x a, e = .returned x ∧ AlV w' (fun b => b ≠ g ∧ w.heap.size ≤ b) x a ∧ a.macs.length ≤ 4 ∧ a.boxes.length ≤ 4 ∧ a.fresh ≤ 4 ∧ GoodA a) ∧ Turn g w w' := by
  have hgw := h.lt
  obtain ⟨p, hp⟩ : ∃ p, p = w.alloc (.cells zar 32) := ⟨_, rfl⟩
  have hb : Below w.heap.size w p := by rw [hp]; exact (Below.refl _ _).alloc (Nat.le_refl _) _
  have hz : Whole p w.heap.size 32 zar := by rw [hp]; exact Whole.here _ _ _
  have HTP := Lib.hid (h.here hb)
  have HZ := Lib.hid hz
  have hps : w.heap.size < p.heap.size := hz.lt
  have hnx := dnext 2 (by omega) (by omega) g p (h.below hb hgw)
  clear h hb hz
  go_enter Tryd.func10, Tryd.ntmps10
  go_upto_region 1 with fail
  rw [zar_lit, ← hp]
  clear hp
  go_wp2_with fail
  refine hnx.mono ?_
  rintro e w1 ⟨i, hi, rfl, ht1⟩
  have HT1 := Lib.hid (HTP.out.trans ht1)
  have HZ1 : Hid (Whole w1 w.heap.size 32 zar) := Lib.hid (ht1.2.2.oth _ _ _ (by omega) HZ.out)
  have hdt := dtag g w1 ht1.1
  clear hnx ht1
  go_wp2_with fail
  refine hdt.mono ?_
  rintro e w2 ⟨⟨K, hK, rfl⟩, ht2⟩
  have HT2 := Lib.hid (HT1.out.trans ht2)
  have HZ2 : Hid (Whole w2 w.heap.size 32 zar) := Lib.hid (ht2.2.2.oth _ _ _ (by omega) HZ1.out)
  have hs2 : w.heap.size < w2.heap.size := HZ2.out.lt
  have hnw := rnew ((i : Int) == 0) hK w2 (fun _ => False)
  clear hdt ht2
  go_wp2_with fail
  refine hnw.mono ?_
  rintro e w3 ⟨⟨v, rfl, hv⟩, hb3⟩
  obtain ⟨a, ha⟩ : ∃ a : Alg, a = ⟨((i : Int) == 0), K, 0, [], []⟩ := ⟨_, rfl⟩
  rw [← ha] at hv
  have HAA := Lib.hid ha
  clear ha
  obtain ⟨Am, cm, Ab, cb, rfl, hM, hBx, hA⟩ := hv
  have hs3 : w2.heap.size ≤ w3.heap.size := hb3.size
  clear hnw
  go_upto_region 2 with (with_reducible refine wpList_store_alg rfl _ _ rfl (g := w3.heap.size) rfl rfl (Whole.here w3 _ _) rfl (alc_size _ _ _ _ _) (alc_one _ _ _ _ _ _ _ _ _) ?_)
  rw [zar_lit]
  obtain ⟨w4, hw4⟩ : ∃ x, x = (w3.alloc (.cells zar 32)).setRow w3.heap.size (alc a.free a.seed a.fresh (.slice Am a.macs.length cm) (.slice Ab a.boxes.length cb)) := ⟨_, rfl⟩
  have hb4 : Below w3.heap.size w3 w4 := by rw [hw4]; exact below_setRow ((Below.refl _ _).alloc (Nat.le_refl _) _) (Nat.le_refl _) _
  have hr4 : ALRow w4 w3.heap.size a.free a.seed a.fresh (.slice Am a.macs.length cm) (.slice Ab a.boxes.length cb) := by rw [hw4]; exact Whole.setRow (Whole.here _ _ _) _
  rw [← hw4]
  clear hw4
  simp only [Act.put]
  obtain ⟨G, hG⟩ : ∃ G, G = w3.heap.size := ⟨_, rfl⟩
  rw [← hG] at hr4 ⊢
  have hgG : g < w.heap.size ∧ w.heap.size < G ∧ G < w4.heap.size := by have := hr4.lt; omega
  have HAV : Hid (AlV w4 (fun b => b ≠ g ∧ b ≠ G ∧ b ≠ w.heap.size ∧ w.heap.size ≤ b) (.agg (alc a.free a.seed a.fresh (.slice Am a.macs.length cm) (.slice Ab a.boxes.length cb))) a) := Lib.hid (AlV.mono (AlV.below ⟨Am, cm, Ab, cb, rfl, hM, hBx, hA⟩ hb4 (Nat.le_refl _)) fun _ _ h => h.elim)
  have HT4 : Hid (Turn g w w4) := Lib.hid ((HT2.out.below hb3 (by omega) (by omega)).below hb4 (by omega) (by omega))
  have HR4 := Lib.hid hr4
  have HZ4 : Hid (Whole w4 w.heap.size 32 zar) := Lib.hid (Whole.below (Whole.below HZ2.out hb3 hs2) hb4 (by omega))
  have hn5 := dnext 5 (by omega) (by omega) g w4 HT4.out.1
  have HAS : Hid (a.macs.length = 0 ∧ a.boxes.length = 0 ∧ a.fresh = 0 ∧ GoodA a) := Lib.hid (by rw [HAA.out]; exact ⟨rfl, rfl, rfl, good_new _ _⟩)
  clear hM hBx hA hb3 hb4 hr4 hG
  go_wp2_with fail
  refine hn5.mono ?_
  rintro e w5 ⟨k0, hk0, rfl, ht5⟩
  clear hn5
  have HT5 := Lib.hid (HT4.out.trans ht5)
  have HAV5 := Lib.hid (HAV.out.oth ht5.2.2 ht5.2.1.size fun _ h => h.1)
  have HR5 : Hid (ALRow w5 G a.free a.seed a.fresh (.slice Am a.macs.length cm) (.slice Ab a.boxes.length cb)) := Lib.hid (ht5.2.2.oth _ _ _ (by omega) HR4.out)
  have HZ5 : Hid (Whole w5 w.heap.size 32 zar) := Lib.hid (ht5.2.2.oth _ _ _ (by omega) HZ4.out)
  clear ht5
  have HI5 : Hid (DalgI g w.heap.size G w k0 w5) := Lib.hid ⟨a, Am, cm, Ab, cb, ⟨by have := HAS.out; omega, by have := HAS.out; omega, by have := HAS.out; omega, HAS.out.2.2.2⟩, HAV5.out, HR5.out, HZ5.out, HT5.out⟩
  have hgG2 : g < w.heap.size ∧ w.heap.size < G := ⟨hgG.1, hgG.2.1⟩
  clear HAV5 HR5 HZ5 HT5 HAV HR4 HZ4 HT4 HAS HAA hgG HT2 HZ2 HT1 HZ1
  go_wp2_with fail
  go_loopw [4] (fun v wr => ∃ k : Nat, v = .int .i64 k ∧ k ≤ 4 ∧ DalgI g w.heap.size G w k wr) (fun v _ => (intOf v).toNat)
  case atStart => exact ⟨k0, rfl, by omega, HI5.out⟩
  case round =>
    clear HI5
    obtain ⟨k, rfl, hk, a, Am, cm, Ab, cb, hbd, hav, hr, hz, ht⟩ := hrel
    have HAV := Lib.hid hav
    have HR := Lib.hid hr
    have HZ := Lib.hid hz
    have HT := Lib.hid ht
    have HBD := Lib.hid hbd
    clear hav hr hz ht hbd
    by_cases hk0 : k = 0
    case pos =>
      subst hk0
      have h3 := Whole.setRow HZ.out (alc a.free a.seed a.fresh (.slice Am a.macs.length cm) (.slice Ab a.boxes.length cb))
      have HB3 := Lib.hid (below_setRow (B := w.heap.size) (Below.refl w.heap.size wr) (Nat.le_refl _) (alc a.free a.seed a.fresh (.slice Am a.macs.length cm) (.slice Ab a.boxes.length cb)))
      have HAV3 : Hid (AlV (wr.setRow w.heap.size (alc a.free a.seed a.fresh (.slice Am a.macs.length cm) (.slice Ab a.boxes.length cb))) (fun b => b ≠ g ∧ w.heap.size ≤ b) (.agg (alc a.free a.seed a.fresh (.slice Am a.macs.length cm) (.slice Ab a.boxes.length cb))) a) := Lib.hid ((HAV.out.keep (below_setRow (B := 0) (Below.refl 0 _) (Nat.zero_le _) _).size fun b _ hq => setRow_other _ _ b _ hq.2.2.1).mono fun b _ hq => ⟨hq.1, hq.2.2.2⟩)
      go_wp2_with (first
        | (with_reducible refine wpList_load_alg rfl _ rfl rfl HR.out (alc_size _ _ _ _ _) ?_)
        | (with_reducible refine wpList_store_alg rfl _ _ rfl (g := w.heap.size) rfl rfl HZ.out zar_size (alc_size _ _ _ _ _) (alc_one _ _ _ _ _ _ _ _ _) ?_))
      refine bodyPost_ret (results_cell_row Tryd.results10 _ _ w.heap.size _ _ _ _ rfl h3 Tryd.underlying32 rfl (by rw [algSize, alc_size])) rfl ?_
      exact ⟨⟨_, a, rfl, HAV3.out, by have := HBD.out; omega, by have := HBD.out; omega, by have := HBD.out; omega, HBD.out.2.2.2⟩, HT.out.below HB3.out hgG2.1 (Nat.le_refl _)⟩
    obtain ⟨k1, rfl⟩ : ∃ k1, k = k1 + 1 := ⟨k - 1, by omega⟩
    have hn3 := dnext 3 (by omega) (by omega) g wr HT.out.1
    have hkp : (0 : Int) < (k1 : Int) + 1 := by omega
    go_wp2_with fail
    refine hn3.mono ?_
    rintro e w6 ⟨i3, hi3, rfl, ht6⟩
    clear hn3
    have HT6 := Lib.hid (HT.out.trans ht6)
    have HAV6 := Lib.hid (HAV.out.oth ht6.2.2 ht6.2.1.size fun _ h => h.1)
    have HR6 : Hid (ALRow w6 G a.free a.seed a.fresh (.slice Am a.macs.length cm) (.slice Ab a.boxes.length cb)) := Lib.hid (ht6.2.2.oth _ _ _ (by omega) HR.out)
    have HZ6 : Hid (Whole w6 w.heap.size 32 zar) := Lib.hid (ht6.2.2.oth _ _ _ (by omega) HZ.out)
    have hGs : G < w6.heap.size := HR6.out.lt
    clear ht6 HT HAV HR HZ
    rcases (by omega : i3 = 0 ∨ i3 = 1 ∨ i3 = 2) with rfl | rfl | rfl
    · have hky := rkey HAV6.out
      go_wp2_with (with_reducible refine wpList_load_alg rfl _ rfl rfl HR6.out (alc_size _ _ _ _ _) ?_)
      refine hky.mono ?_
      rintro e w7 ⟨⟨x, rfl, hx⟩, hb7⟩
      clear hky
      obtain ⟨a', ha'⟩ : ∃ a', a' = (aKey a).1 := ⟨_, rfl⟩
      have hbd := aKey_next HBD.out
      rw [← ha'] at hx hbd
      obtain ⟨Am', cm', Ab', cb', rfl, hM, hBx, hA⟩ := hx
      have HE := Lib.hid (DalgI.store hbd ⟨Am', cm', Ab', cb', rfl, hM, hBx, hA⟩ (Whole.below HR6.out hb7 hGs) (Whole.below HZ6.out hb7 (by omega)) (HT6.out.below hb7 (by omega) HT6.out.2.1.size) hgG2.1 (by omega) (by omega))
      have hr7 := Whole.below HR6.out hb7 hGs
      clear hM hBx hA ha' hb7
      go_wp2_with (with_reducible refine wpList_store_alg rfl _ _ rfl (g := G) rfl rfl hr7 (alc_size _ _ _ _ _) (alc_size _ _ _ _ _) (alc_one _ _ _ _ _ _ _ _ _) ?_)
      go_roundw
      case rel => exact ⟨k1, by go_num, by omega, HE.out⟩
      case measure => simp [intOf]
    · skip
      go_upto_region 9 with fail
      have hdk := HT6.out.1.drew
      have HT0 : Hid (Turn g w w6.drew) := Lib.hid (HT6.out.trans ⟨hdk, (Below.refl _ _).drew, (Oth.refl g w6).drew⟩)
      have HAV0 := Lib.hid (HAV6.out.keep (w' := w6.drew) (Nat.le_refl _) fun _ _ _ => rfl)
      have HR0 : Hid (ALRow w6.drew G a.free a.seed a.fresh (.slice Am a.macs.length cm) (.slice Ab a.boxes.length cb)) := Lib.hid (Whole.drew HR6.out)
      have HZ0 : Hid (Whole w6.drew w.heap.size 32 zar) := Lib.hid (Whole.drew HZ6.out)
      clear hdk
      refine wp_region_G (fun W : World => W.rangeAt G 0 (alcl a.free a.seed a.fresh (.slice Am a.macs.length cm) (.slice Ab a.boxes.length cb))) (fun _ => True) [11] (by kernel_rfl) ?_
      generalize w6.drew = U0 at HT0 HAV0 HR0 HZ0 ⊢
      have hHeld : (fun W : World => W.rangeAt G 0 (alcl a.free a.seed a.fresh (.slice Am a.macs.length cm) (.slice Ab a.boxes.length cb))) U0 := Whole.range HR0.out
      apply AnyG_take (i := 0) rfl (by kernel_rfl) (by kernel_rfl) (by kernel_rfl) (by kernel_rfl)
      case hQ => exact fun _ _ _ h => h
      case hB => exact trivial
      case hC => exact hHeld
      case hy => exact yieldsIf_load_mid (by rfl) 32 _ rfl G (0) rfl (alcl a.free a.seed a.fresh (.slice Am a.macs.length cm) (.slice Ab a.boxes.length cb)) _ (fun w hS => hS) Tryd.underlying32 rfl (by rw [algSize, alcl_length])
      (try simp only [sq])
      apply AnyG_pure (i := 1) rfl (by kernel_rfl) (by kernel_rfl) (by kernel_rfl) (by kernel_rfl)
      case hQ => exact fun _ _ _ h => h
      case hB => exact trivial
      case hC => exact .inr hHeld
      case hy => (refine Or.inl ⟨by rfl, ?_⟩; intro w hSw; (try go_split_ands); go_simp; (try with_reducible rfl))
      (try simp only [sq])
      apply AnyG_take (i := 2) rfl (by kernel_rfl) (by kernel_rfl) (by kernel_rfl) (by kernel_rfl)
      case hQ => exact fun _ _ _ h => h
      case hB => exact trivial
      case hC => exact hHeld
      case hy => exact yieldsIf_load_mid (by rfl) 32 _ rfl G (0) rfl (alcl a.free a.seed a.fresh (.slice Am a.macs.length cm) (.slice Ab a.boxes.length cb)) _ (fun w hS => hS) Tryd.underlying32 rfl (by rw [algSize, alcl_length])
      (try simp only [sq])
      apply AnyG_pure (i := 4) rfl (by kernel_rfl) (by kernel_rfl) (by kernel_rfl) (by kernel_rfl)
      case hQ => exact fun _ _ _ h => h
      case hB => exact trivial
      case hC => exact .inr hHeld
      case hy => (refine Or.inl ⟨by rfl, ?_⟩; intro w hSw; (try go_split_ands); go_simp; (try with_reducible rfl))
      (try simp only [sq])
      refine AnyG_one (i := 3) (by kernel_rfl) rfl (fun KK hKK => ?_)
      (try simp only [sq])
      go_simp
      go_at_call 11
      refine (dknown g U0 HT0.out.1 HAV0.out (fun _ h => h.1)).mono ?_
      rintro e U1 ⟨⟨K1, hK1, rfl⟩, ht1⟩
      have HT1 := Lib.hid (HT0.out.trans ht1)
      have HAV1 := Lib.hid (HAV0.out.oth ht1.2.2 ht1.2.1.size fun _ h => h.1)
      have HR1 : Hid (ALRow U1 G a.free a.seed a.fresh (.slice Am a.macs.length cm) (.slice Ab a.boxes.length cb)) := Lib.hid (ht1.2.2.oth _ _ _ (by omega) HR0.out)
      have HZ1 : Hid (Whole U1 w.heap.size 32 zar) := Lib.hid (ht1.2.2.oth _ _ _ (by omega) HZ0.out)
      clear ht1
      clear hHeld
      have hHeld : (fun W : World => W.rangeAt G 0 (alcl a.free a.seed a.fresh (.slice Am a.macs.length cm) (.slice Ab a.boxes.length cb))) U1 := Whole.range HR1.out
      refine hKK.out _ _ (.inr hHeld) trivial ?_
      clear hKK KK
      (try simp only [sq])
      refine AnyG_one (i := 5) (by kernel_rfl) rfl (fun KK hKK => ?_)
      (try simp only [sq])
      go_simp
      go_at_call 37
      refine (dbytes 6 (by omega) g U1 HT1.out.1).mono ?_
      rintro e U2 ⟨⟨B1, cc1, l1, hl1, rfl, hy1⟩, ht2⟩
      have HT2 := Lib.hid (HT1.out.trans ht2)
      have HAV2 := Lib.hid (HAV1.out.oth ht2.2.2 ht2.2.1.size fun _ h => h.1)
      have HR2 : Hid (ALRow U2 G a.free a.seed a.fresh (.slice Am a.macs.length cm) (.slice Ab a.boxes.length cb)) := Lib.hid (ht2.2.2.oth _ _ _ (by omega) HR1.out)
      have HZ2 : Hid (Whole U2 w.heap.size 32 zar) := Lib.hid (ht2.2.2.oth _ _ _ (by omega) HZ1.out)
      clear ht2
      clear hHeld
      have hHeld : (fun W : World => W.rangeAt G 0 (alcl a.free a.seed a.fresh (.slice Am a.macs.length cm) (.slice Ab a.boxes.length cb))) U2 := Whole.range HR2.out
      refine hKK.out _ _ (.inr hHeld) trivial ?_
      clear hKK KK
      (try simp only [sq])
      refine AnyG_one (i := 6) (by kernel_rfl) rfl (fun KK hKK => ?_)
      (try simp only [sq])
      go_simp
      have hgs : G < U2.heap.size := HR2.out.lt
      go_at_call 14
      refine (rmac HAV2.out (by have := HBD.out; omega) hK1 hy1 (by omega)).mono ?_
      rintro e U9 ⟨⟨x, rfl, hx⟩, hb9⟩
      have hx := hx.mono (Q' := fun b => b ≠ g ∧ b ≠ G ∧ b ≠ w.heap.size ∧ w.heap.size ≤ b) fun b _ hq => hq.elim id fun hq => ⟨by omega, by omega, by omega, by omega⟩
      have hbd := aMac_next (K := K1) (m := l1) (by omega) HBD.out
      obtain ⟨a', ha'⟩ : ∃ a', a' = (aMac a K1 l1).1 := ⟨_, rfl⟩
      rw [← ha'] at hx hbd
      clear ha'
      obtain ⟨Am', cm', Ab', cb', rfl, hM, hBx, hA⟩ := hx
      have hr9 := Whole.below HR2.out hb9 hgs
      have HE := Lib.hid (DalgI.store hbd ⟨Am', cm', Ab', cb', rfl, hM, hBx, hA⟩ hr9 (Whole.below HZ2.out hb9 (by omega)) (HT2.out.below hb9 (by omega) HT2.out.2.1.size) hgG2.1 (by omega) (by omega))
      have hrr := Whole.range hr9
      clear hM hBx hA hb9 hbd
      clear hHeld
      have hHeld : (fun W : World => W.rangeAt G 0 (alcl a.free a.seed a.fresh (.slice Am a.macs.length cm) (.slice Ab a.boxes.length cb))) U9 := hrr
      refine hKK.out _ _ (.inr hHeld) trivial ?_
      clear hKK KK
      (try simp only [sq])
      apply AnyG_pure (i := 7) rfl (by kernel_rfl) (by kernel_rfl) (by kernel_rfl) (by kernel_rfl)
      case hQ => exact fun _ _ _ h => h
      case hB => exact trivial
      case hC => exact .inr hHeld
      case hy => (refine Or.inl ⟨by rfl, ?_⟩; intro w hSw; (try go_split_ands); go_simp; (try with_reducible rfl))
      (try simp only [sq])
      apply AnyG_pure (i := 8) rfl (by kernel_rfl) (by kernel_rfl) (by kernel_rfl) (by kernel_rfl)
      case hQ => exact fun _ _ _ h => h
      case hB => exact trivial
      case hC => exact .inr hHeld
      case hy => (refine Or.inl ⟨by rfl, ?_⟩; intro w hSw; (try go_split_ands); go_simp; (try with_reducible rfl))
      (try simp only [sq])
      apply AnyG_pure (i := 9) rfl (by kernel_rfl) (by kernel_rfl) (by kernel_rfl) (by kernel_rfl)
      case hQ => exact fun _ _ _ h => h
      case hB => exact trivial
      case hC => exact .inr hHeld
      case hy => (refine Or.inl ⟨by rfl, ?_⟩; intro w hSw; (try go_split_ands); go_simp; (try with_reducible rfl))
      (try simp only [sq])
      apply AnyG_pure (i := 10) rfl (by kernel_rfl) (by kernel_rfl) (by kernel_rfl) (by kernel_rfl)
      case hQ => exact fun _ _ _ h => h
      case hB => exact trivial
      case hC => exact .inr hHeld
      case hy => (refine Or.inl ⟨by rfl, ?_⟩; intro w hSw; (try go_split_ands); go_simp; (try with_reducible rfl))
      (try simp only [sq])
      refine AnyG_one (i := 11) (by kernel_rfl) rfl (fun KK hKK => ?_)
      (try simp only [sq])
      obtain ⟨W5, hW5⟩ : ∃ x, x = U9.setRow G (alc a'.free a'.seed a'.fresh (.slice Am' a'.macs.length cm') (.slice Ab' a'.boxes.length cb')) := ⟨_, rfl⟩
      rw [← hW5] at HE
      rw [if_pos (by kernel_rfl)]
      refine wp_store_row 32 _ _ rfl G _ rfl rfl 32 _ hr9 (by rw [algSize, alc_size]) (by rw [alc_size, alc_size]) (alc_one _ _ _ _ _ _ _ _ _) ?_
      rw [← hW5]
      clear hW5
      refine hKK.out _ _ (.inl (by kernel_rfl)) trivial ?_
      clear hKK KK
      (try simp only [sq])
      refine AnyG_done (by kernel_rfl) ?_ _
      clear hHeld hrr hr9
      go_wp2_with fail
      go_roundw
      case rel => exact ⟨k1, by go_num, by omega, HE.out⟩
      case measure => simp [intOf]
    · skip
      go_upto_region 11 with fail
      have hdk := HT6.out.1.drew
      have HT0 : Hid (Turn g w w6.drew) := Lib.hid (HT6.out.trans ⟨hdk, (Below.refl _ _).drew, (Oth.refl g w6).drew⟩)
      have HAV0 := Lib.hid (HAV6.out.keep (w' := w6.drew) (Nat.le_refl _) fun _ _ _ => rfl)
      have HR0 : Hid (ALRow w6.drew G a.free a.seed a.fresh (.slice Am a.macs.length cm) (.slice Ab a.boxes.length cb)) := Lib.hid (Whole.drew HR6.out)
      have HZ0 : Hid (Whole w6.drew w.heap.size 32 zar) := Lib.hid (Whole.drew HZ6.out)
      clear hdk
      refine wp_region_G (fun W : World => W.rangeAt G 0 (alcl a.free a.seed a.fresh (.slice Am a.macs.length cm) (.slice Ab a.boxes.length cb))) (fun _ => True) [13] (by kernel_rfl) ?_
      generalize w6.drew = U0 at HT0 HAV0 HR0 HZ0 ⊢
      have hHeld : (fun W : World => W.rangeAt G 0 (alcl a.free a.seed a.fresh (.slice Am a.macs.length cm) (.slice Ab a.boxes.length cb))) U0 := Whole.range HR0.out
      apply AnyG_take (i := 0) rfl (by kernel_rfl) (by kernel_rfl) (by kernel_rfl) (by kernel_rfl)
      case hQ => exact fun _ _ _ h => h
      case hB => exact trivial
      case hC => exact hHeld
      case hy => exact yieldsIf_load_mid (by rfl) 32 _ rfl G (0) rfl (alcl a.free a.seed a.fresh (.slice Am a.macs.length cm) (.slice Ab a.boxes.length cb)) _ (fun w hS => hS) Tryd.underlying32 rfl (by rw [algSize, alcl_length])
      (try simp only [sq])
      apply AnyG_pure (i := 1) rfl (by kernel_rfl) (by kernel_rfl) (by kernel_rfl) (by kernel_rfl)
      case hQ => exact fun _ _ _ h => h
      case hB => exact trivial
      case hC => exact .inr hHeld
      case hy => (refine Or.inl ⟨by rfl, ?_⟩; intro w hSw; (try go_split_ands); go_simp; (try with_reducible rfl))
      (try simp only [sq])
      apply AnyG_take (i := 2) rfl (by kernel_rfl) (by kernel_rfl) (by kernel_rfl) (by kernel_rfl)
      case hQ => exact fun _ _ _ h => h
      case hB => exact trivial
      case hC => exact hHeld
      case hy => exact yieldsIf_load_mid (by rfl) 32 _ rfl G (0) rfl (alcl a.free a.seed a.fresh (.slice Am a.macs.length cm) (.slice Ab a.boxes.length cb)) _ (fun w hS => hS) Tryd.underlying32 rfl (by rw [algSize, alcl_length])
      (try simp only [sq])
      apply AnyG_pure (i := 4) rfl (by kernel_rfl) (by kernel_rfl) (by kernel_rfl) (by kernel_rfl)
      case hQ => exact fun _ _ _ h => h
      case hB => exact trivial
      case hC => exact .inr hHeld
      case hy => (refine Or.inl ⟨by rfl, ?_⟩; intro w hSw; (try go_split_ands); go_simp; (try with_reducible rfl))
      (try simp only [sq])
      apply AnyG_pure (i := 6) rfl (by kernel_rfl) (by kernel_rfl) (by kernel_rfl) (by kernel_rfl)
      case hQ => exact fun _ _ _ h => h
      case hB => exact trivial
      case hC => exact .inr hHeld
      case hy => (refine Or.inl ⟨by rfl, ?_⟩; intro w hSw; (try go_split_ands); go_simp; (try with_reducible rfl))
      (try simp only [sq])
      refine AnyG_one (i := 3) (by kernel_rfl) rfl (fun KK hKK => ?_)
      (try simp only [sq])
      go_simp
      go_at_call 11
      refine (dknown g U0 HT0.out.1 HAV0.out (fun _ h => h.1)).mono ?_
      rintro e U1 ⟨⟨K1, hK1, rfl⟩, ht1⟩
      have HT1 := Lib.hid (HT0.out.trans ht1)
      have HAV1 := Lib.hid (HAV0.out.oth ht1.2.2 ht1.2.1.size fun _ h => h.1)
      have HR1 : Hid (ALRow U1 G a.free a.seed a.fresh (.slice Am a.macs.length cm) (.slice Ab a.boxes.length cb)) := Lib.hid (ht1.2.2.oth _ _ _ (by omega) HR0.out)
      have HZ1 : Hid (Whole U1 w.heap.size 32 zar) := Lib.hid (ht1.2.2.oth _ _ _ (by omega) HZ0.out)
      clear ht1
      clear hHeld
      have hHeld : (fun W : World => W.rangeAt G 0 (alcl a.free a.seed a.fresh (.slice Am a.macs.length cm) (.slice Ab a.boxes.length cb))) U1 := Whole.range HR1.out
      refine hKK.out _ _ (.inr hHeld) trivial ?_
      clear hKK KK
      (try simp only [sq])
      refine AnyG_one (i := 5) (by kernel_rfl) rfl (fun KK hKK => ?_)
      (try simp only [sq])
      go_simp
      go_at_call 30
      refine (dnext 4 (by omega) (by omega) g U1 HT1.out.1).mono ?_
      rintro e U2 ⟨z2, hz2, rfl, ht2⟩
      have HT2 := Lib.hid (HT1.out.trans ht2)
      have HAV2 := Lib.hid (HAV1.out.oth ht2.2.2 ht2.2.1.size fun _ h => h.1)
      have HR2 : Hid (ALRow U2 G a.free a.seed a.fresh (.slice Am a.macs.length cm) (.slice Ab a.boxes.length cb)) := Lib.hid (ht2.2.2.oth _ _ _ (by omega) HR1.out)
      have HZ2 : Hid (Whole U2 w.heap.size 32 zar) := Lib.hid (ht2.2.2.oth _ _ _ (by omega) HZ1.out)
      clear ht2
      clear hHeld
      have hHeld : (fun W : World => W.rangeAt G 0 (alcl a.free a.seed a.fresh (.slice Am a.macs.length cm) (.slice Ab a.boxes.length cb))) U2 := Whole.range HR2.out
      refine hKK.out _ _ (.inr hHeld) trivial ?_
      clear hKK KK
      (try simp only [sq])
      refine AnyG_one (i := 7) (by kernel_rfl) rfl (fun KK hKK => ?_)
      (try simp only [sq])
      go_simp
      go_at_call 37
      refine (dbytes 40 (by omega) g U2 HT2.out.1).mono ?_
      rintro e U3 ⟨⟨B1, cc1, l1, hl1, rfl, hy1⟩, ht3⟩
      have HT3 := Lib.hid (HT2.out.trans ht3)
      have HAV3 := Lib.hid (HAV2.out.oth ht3.2.2 ht3.2.1.size fun _ h => h.1)
      have HR3 : Hid (ALRow U3 G a.free a.seed a.fresh (.slice Am a.macs.length cm) (.slice Ab a.boxes.length cb)) := Lib.hid (ht3.2.2.oth _ _ _ (by omega) HR2.out)
      have HZ3 : Hid (Whole U3 w.heap.size 32 zar) := Lib.hid (ht3.2.2.oth _ _ _ (by omega) HZ2.out)
      clear ht3
      clear hHeld
      have hHeld : (fun W : World => W.rangeAt G 0 (alcl a.free a.seed a.fresh (.slice Am a.macs.length cm) (.slice Ab a.boxes.length cb))) U3 := Whole.range HR3.out
      refine hKK.out _ _ (.inr hHeld) trivial ?_
      clear hKK KK
      (try simp only [sq])
      refine AnyG_one (i := 8) (by kernel_rfl) rfl (fun KK hKK => ?_)
      (try simp only [sq])
      go_simp
      have hgs : G < U3.heap.size := HR3.out.lt
      go_at_call 32
      refine (rseal (z := (z2 : Int)) HAV3.out (by have := HBD.out; omega) hK1 (show i64q (z2 : Int) from ⟨by omega, by omega⟩) hy1 (by omega)).mono ?_
      rintro e U9 ⟨⟨x, vb, rfl, hx, -⟩, hb9⟩
      have hx := hx.mono (Q' := fun b => b ≠ g ∧ b ≠ G ∧ b ≠ w.heap.size ∧ w.heap.size ≤ b) fun b _ hq => hq.elim id fun hq => ⟨by omega, by omega, by omega, by omega⟩
      have hbd := aSeal_next (K := K1) (m := l1) (z := (z2 : Int)) (by omega) ⟨by omega, by omega⟩ HBD.out
      obtain ⟨a', ha'⟩ : ∃ a', a' = (aSeal a K1 (z2 : Int) l1).1 := ⟨_, rfl⟩
      rw [← ha'] at hx hbd
      clear ha'
      obtain ⟨Am', cm', Ab', cb', rfl, hM, hBx, hA⟩ := hx
      have hr9 := Whole.below HR3.out hb9 hgs
      have HE := Lib.hid (DalgI.store hbd ⟨Am', cm', Ab', cb', rfl, hM, hBx, hA⟩ hr9 (Whole.below HZ3.out hb9 (by omega)) (HT3.out.below hb9 (by omega) HT3.out.2.1.size) hgG2.1 (by omega) (by omega))
      have hrr := Whole.range hr9
      clear hM hBx hA hb9 hbd
      clear hHeld
      have hHeld : (fun W : World => W.rangeAt G 0 (alcl a.free a.seed a.fresh (.slice Am a.macs.length cm) (.slice Ab a.boxes.length cb))) U9 := hrr
      refine hKK.out _ _ (.inr hHeld) trivial ?_
      clear hKK KK
      (try simp only [sq])
      apply AnyG_pure (i := 9) rfl (by kernel_rfl) (by kernel_rfl) (by kernel_rfl) (by kernel_rfl)
      case hQ => exact fun _ _ _ h => h
      case hB => exact trivial
      case hC => exact .inr hHeld
      case hy => (refine Or.inl ⟨by rfl, ?_⟩; intro w hSw; (try go_split_ands); go_simp; (try with_reducible rfl))
      (try simp only [sq])
      apply AnyG_pure (i := 10) rfl (by kernel_rfl) (by kernel_rfl) (by kernel_rfl) (by kernel_rfl)
      case hQ => exact fun _ _ _ h => h
      case hB => exact trivial
      case hC => exact .inr hHeld
      case hy => (refine Or.inl ⟨by rfl, ?_⟩; intro w hSw; (try go_split_ands); go_simp; (try with_reducible rfl))
      (try simp only [sq])
      apply AnyG_pure (i := 11) rfl (by kernel_rfl) (by kernel_rfl) (by kernel_rfl) (by kernel_rfl)
      case hQ => exact fun _ _ _ h => h
      case hB => exact trivial
      case hC => exact .inr hHeld
      case hy => (refine Or.inl ⟨by rfl, ?_⟩; intro w hSw; (try go_split_ands); go_simp; (try with_reducible rfl))
      (try simp only [sq])
      apply AnyG_pure (i := 12) rfl (by kernel_rfl) (by kernel_rfl) (by kernel_rfl) (by kernel_rfl)
      case hQ => exact fun _ _ _ h => h
      case hB => exact trivial
      case hC => exact .inr hHeld
      case hy => (refine Or.inl ⟨by rfl, ?_⟩; intro w hSw; (try go_split_ands); go_simp; (try with_reducible rfl))
      (try simp only [sq])
      refine AnyG_one (i := 13) (by kernel_rfl) rfl (fun KK hKK => ?_)
      (try simp only [sq])
      obtain ⟨W5, hW5⟩ : ∃ x, x = U9.setRow G (alc a'.free a'.seed a'.fresh (.slice Am' a'.macs.length cm') (.slice Ab' a'.boxes.length cb')) := ⟨_, rfl⟩
      rw [← hW5] at HE
      rw [if_pos (by kernel_rfl)]
      refine wp_store_row 32 _ _ rfl G _ rfl rfl 32 _ hr9 (by rw [algSize, alc_size]) (by rw [alc_size, alc_size]) (alc_one _ _ _ _ _ _ _ _ _) ?_
      rw [← hW5]
      clear hW5
      refine hKK.out _ _ (.inl (by kernel_rfl)) trivial ?_
      clear hKK KK
      (try simp only [sq])
      refine AnyG_done (by kernel_rfl) ?_ _
      clear hHeld hrr hr9
      go_wp2_with fail
      go_roundw
      case rel => exact ⟨k1, by go_num, by omega, HE.out⟩
      case measure => simp [intOf]
theorem dalg (g : Nat) (w : World) (h : Deck g w) :
    Calls Tryd.prog 10 #[.pointer (some ⟨g, 0, none⟩)] w fun e w' => (∃ x a, e = .returned x ∧ AlV w' (fun b => b ≠ g) x a ∧ a.macs.length ≤ 4 ∧ a.boxes.length ≤ 4 ∧ a.fresh ≤ 4 ∧ GoodA a) ∧ Turn g w w' :=
  (dalgs g w h).mono fun _ _ ⟨⟨x, a, h1, h2, h3⟩, ht⟩ => ⟨⟨x, a, h1, h2.mono fun _ _ hq => hq.1, h3⟩, ht⟩
end Go.Proofs.YtiikhjifjdpgdaaDoor
namespace Go.Proofs.YtiikhjifjdpgdaaDoor
open Go Go.RowKit Sh Leaf

theorem zmr_lit : Tryd.zeroCells90 = zmr := by kernel_rfl
theorem mclm_size (X : MeM) : (mcl X).toArray.size = 65 := by rw [List.size_toArray, mcl_len]
theorem mcl_one1 (X : MeM) : (mcl X).toArray.all (·.oneCell') = true := all_oneCell_toArray (mcl_one X)
theorem mcl_sz (X : MeM) : (Tryd.prog.info? 90).map (·.size) = some (mcl X).length := by rw [macSize, mcl_len]
theorem wpList_store_mac {w : World} {g : Nat} {ops : Array Oper} {rest : List Oper} {o : Oper} {a : Act} {Q : Exit → Act → World → Prop} (hgd : o.guard = none) (x y : Operand) (ho : o.op = .store 90 x y)
    (hx : a.eval x = .pointer (some ⟨g, 0, none⟩)) {cs cs' : Array Value} (hy : a.eval y = .agg cs') (hg : Whole w g 90 cs) (h8 : cs.size = 65) (h8' : cs'.size = 65) (hone : cs'.all (·.oneCell') = true)
    (h : wpList Tryd.prog ops Q rest (a.put o.dst undef) (w.setRow g cs')) : wpList Tryd.prog ops Q (o :: rest) a w :=
  wpList_store_row hgd 90 x y ho g _ hx hy 90 _ hg (by rw [macSize, h8']) (by rw [h8, h8']) hone h
theorem MCRow.key {w : World} {g : Nat} {x : MeM} (h : Whole w g 90 (mcl x).toArray) (hk : x.e.key.length = 32) : w.rangeAt g 0 (x.e.key.map byt) := fun j v hj => by
  rw [Nat.zero_add, Whole.cell h]
  unfold mcl
  have hl := (List.getElem?_eq_some_iff.1 hj).1
  rw [List.length_map, hk] at hl
  rw [List.getElem?_toArray, List.getElem?_append_left (by rw [p32_cells]; exact hl), p32_eq hk]
  exact hj
theorem MCRow.msg {w : World} {g : Nat} {x : MeM} (h : Whole w g 90 (mcl x).toArray) : w.cell? ⟨g, 32, none⟩ = some (.slice x.A x.e.msg.length x.c) := by
  rw [Whole.cell h]
  unfold mcl
  rw [List.getElem?_toArray, List.getElem?_append_right (by rw [p32_cells]; omega), p32_cells]
  rfl
theorem MCRow.tag {w : World} {g : Nat} {x : MeM} (h : Whole w g 90 (mcl x).toArray) (ht : x.e.tag.length = 32) : w.rangeAt g 33 (x.e.tag.map byt) := fun j v hj => by
  rw [Whole.cell h]
  unfold mcl
  have hl := (List.getElem?_eq_some_iff.1 hj).1
  rw [List.length_map, ht] at hl
  rw [List.getElem?_toArray, List.getElem?_append_right (by rw [p32_cells]; omega), p32_cells, show 33 + j - 32 = j + 1 by omega, List.getElem?_cons_succ, p32_eq ht]
  exact hj
theorem alc_at (fr : Bool) (sd : List B8) (n : Int) (vm vb : Value) (j : Nat) : (alc fr sd n vm vb)[33 + j]? = ([.int .i64 n, vm, vb] : List Value)[j]? := by
  unfold alc alcl
  rw [List.getElem?_toArray, show 33 + j = (32 + j) + 1 by omega, List.getElem?_cons_succ, List.getElem?_append_right (by rw [p32_cells]; omega), p32_cells, show 32 + j - 32 = j by omega]
theorem alc_inj {fr fr' : Bool} {sd sd' : List B8} {n n' : Int} {vm vb vm' vb' : Value} (h : alc fr sd n vm vb = alc fr' sd' n' vm' vb') : vm = vm' ∧ vb = vb' := by
  have h1 := congrArg (fun c : Array Value => c[33 + 1]?) h
  have h2 := congrArg (fun c : Array Value => c[33 + 2]?) h
  simp only [alc_at] at h1 h2
  exact ⟨Option.some.inj h1, Option.some.inj h2⟩
theorem AlV.parts {w : World} {Q : Nat → Prop} {a : Alg} {Am Ab : Option Addr} {cm cb : Nat} (h : AlV w Q (.agg (alc a.free a.seed a.fresh (.slice Am a.macs.length cm) (.slice Ab a.boxes.length cb))) a) : Macs w Q Am cm a.macs ∧ Bxs w Q Ab cb a.boxes := by
  obtain ⟨Am', cm', Ab', cb', he, h1, h2, -⟩ := h
  injection he with he
  obtain ⟨e1, e2⟩ := alc_inj he
  injection e1 with e1 _ e3
  injection e2 with e4 _ e6
  subst e1 e3 e4 e6
  exact ⟨h1, h2⟩
theorem wpList_load_alg_w {w : World} {g : Nat} {fr : Bool} {sd : List B8} {n : Int} {vm vb : Value} {ops : Array Oper} {rest : List Oper} {o : Oper} {a : Act} {Q : Exit → Act → World → Prop} (hgd : Region.wanted o (yielded ops a.tmps) = true) (x : Operand) (ho : o.op = .load 32 x)
    (hx : a.eval x = .pointer (some ⟨g, 0, none⟩)) (hg : ALRow w g fr sd n vm vb) (h : wpList Tryd.prog ops Q rest (a.put o.dst (.agg (alc fr sd n vm vb))) w) : wpList Tryd.prog ops Q (o :: rest) a w :=
  wpList_load_wanted_at hgd 32 x ho g 0 hx (alcl fr sd n vm vb) _ (Whole.range hg) Tryd.underlying32 rfl (alg_sz _ _ _ _ _) h
namespace Sh
theorem good_look {a : Alg} {K m T : List B8} (h : GoodA a) (hf : fnd a.macs K m = some T) (hm : m.length ≤ 4096) : aLook a K m = (T, true) := by
  unfold aLook
  split
  · rw [hf]
  · rename_i hfr
    rw [if_neg (by omega)]
    obtain ⟨e, he, rfl, rfl, rfl⟩ := fnd_mem hf
    rw [h.cm (by simpa using hfr) e he]
theorem mac_fnd {a : Alg} {K m : List B8} (hm : m.length ≤ 4096) (ha : a.macs.length < 1000) : fnd (aMac a K m).1.macs K m = some (aMac a K m).2.1 := by
  unfold aMac
  rw [if_neg (by omega)]
  cases hf : fnd a.macs K m with
  | some t => simp only [hf]
  | none =>
    simp only
    rw [if_neg (by omega)]
    show fnd (a.macs ++ [_]) K m = _
    rw [fnd_snoc, hf]
    simp
theorem mac_again {a : Alg} {K m T : List B8} (hm : m.length ≤ 4096) (hf : fnd a.macs K m = some T) : aMac a K m = (a, T, 0) := by
  unfold aMac
  rw [if_neg (by omega)]
  simp only [hf]
theorem mac_mem {a : Alg} {K m : List B8} (hm : m.length ≤ 4096) (ha : a.macs.length < 1000) : ∀ e ∈ a.macs, e ∈ (aMac a K m).1.macs := by
  intro e he
  unfold aMac
  rw [if_neg (by omega)]
  split
  · exact he
  rw [if_neg (by omega)]
  exact List.mem_append_left _ he
theorem found_all {a b c : Alg} {K m T U V : List B8} {e f : Int} {ok : Bool} (hg : GoodA a) (ha : a.macs.length ≤ 4) (hm : m.length ≤ 200) (h1 : (b, T, e) = aMac a K m) (h2 : (U, ok) = aLook b K m) (h3 : (c, V, f) = aMac b K m) :
    e = 0 ∧ f = 0 ∧ ok = true ∧ U = T ∧ V = T ∧ c = b ∧ ∀ x ∈ a.macs, aLook b x.key x.msg = (x.tag, true) := by
  have hb : GoodA b := by have := good_mac (K := K) (m := m) hg; rw [← h1] at this; exact this
  have h4 := mac_fnd (K := K) (m := m) (by omega) (by omega : a.macs.length < 1000)
  rw [← h1] at h4
  have h4 : fnd b.macs K m = some T := h4
  rw [good_look hb h4 (by omega)] at h2
  rw [mac_again (by omega) h4] at h3
  have h5 := mac_ok (K := K) (m := m) (by omega) (by omega : a.macs.length < 1000)
  rw [← h1] at h5
  have h6 := mac_mem (K := K) (m := m) (by omega) (by omega : a.macs.length < 1000)
  rw [← h1] at h6
  injection h2 with e1 e2
  injection h3 with e3 e4
  injection e4 with e4 e5
  exact ⟨h5, e5, e2, e1, e4, e3, fun x hx => good_look hb (hb.fm x (h6 x hx)) (hg.lm x hx)⟩
end Sh
end Go.Proofs.YtiikhjifjdpgdaaDoor
