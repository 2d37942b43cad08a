/-
  AlgStrm
  AlgSeS
  Gud
  ChnSpec
  CFreS
  KMde
  KPss
  ChnCat
  ChnRoo
  ChnExt
  ChnAwS
  ChnRid
  AlgMac
  ChnN1
  ChnCh
  ChnMsg
  ChnNd
  KPsl
  ChnIsM
-/
import Derived.Deep.RegionHeld3
import Derived.Deep.CutBlock
import Derived.Deep.DeepCutAuto
import Derived.Laws.CopyOwn
import Derived.Test.YtiikhjifjdpgdaaDoorKSq
import Derived.Test.YtiikhjifjdpgdaaDoorPk15
import Derived.Test.YtiikhjifjdpgdaaDoorPk6
import Derived.Test.YtiikhjifjdpgdaaDoorPk3
import Derived.Test.YtiikhjifjdpgdaaDoorPk19
import Derived.Test.YtiikhjifjdpgdaaDoorKAnyG
import Derived.Test.YtiikhjifjdpgdaaDoorPk21
import Derived.Test.YtiikhjifjdpgdaaDoorPk23
import Derived.Test.YtiikhjifjdpgdaaDoorPk26
import Derived.Test.YtiikhjifjdpgdaaDoorPk0
import Derived.Test.YtiikhjifjdpgdaaDoorPk32
import Derived.Test.YtiikhjifjdpgdaaDoorPk18
import Derived.LoopN
import Derived.Handy
import Derived.Test.YtiikhjifjdpgdaaDoorPk17
import Derived.Test.YtiikhjifjdpgdaaDoorPk24
namespace Go.Proofs.YtiikhjifjdpgdaaDoor
open Go Go.RowKit Sh Leaf
namespace Sh

def strw : List B8 := [115#8, 116#8, 114#8, 101#8, 97#8, 109#8]
def kstr (K : List B8) (n i : Nat) : B8 := (hmac K (strw ++ (be8 n ++ be8 (i / 32)))).getD (i % 32) 0
def strm (K : List B8) (n : Nat) (b : List B8) : List B8 := b.mapIdx fun i x => x ^^^ kstr K n i
def stj (K : List B8) (n : Nat) (b : List B8) (j : Nat) : List B8 := b.mapIdx fun i x => if i < j then x ^^^ kstr K n i else x
end Sh
end Go.Proofs.YtiikhjifjdpgdaaDoor
namespace Go.Proofs.YtiikhjifjdpgdaaDoor
open Go Go.RowKit Sh Leaf
namespace Sh

def boxw : List B8 := [98#8, 111#8, 120#8]
def boxh (k : List B8) (z : Int) (m : List B8) : List B8 := be8 z.toNat ++ strm k z.toNat m
def boxb (a : Alg) (k : List B8) (z : Int) (m : List B8) : List B8 :=
  if a.free = true then sym 98#8 ((a.boxes.length + 1 : Nat) : Int) ++ List.replicate (m.length + 8) 0 else boxh k z m ++ hmac k (boxw ++ boxh k z m)
def fndb (l : List Bx) (k : List B8) (z : Int) (m : List B8) : Option (List B8) := (l.find? fun e => decide (e.key = k ∧ e.nonce = z ∧ e.plain = m)).map (·.box)
def aSeal (a : Alg) (k : List B8) (z : Int) (m : List B8) : Alg × List B8 × Int :=
  if z < 0 ∨ 281474976710656 < z then (zalg, [], 1)
  else if 256 < m.length then (zalg, [], 2)
  else match fndb a.boxes k z m with
    | some b => (a, b, 0)
    | none => if 65536 ≤ a.boxes.length then (zalg, [], 2) else ({ a with boxes := a.boxes ++ [⟨k, z, m, boxb a k z m⟩] }, boxb a k z m, 0)
end Sh
def SeR (w : World) (Q Q' : Nat → Prop) (e : Ending) (r : Alg × List B8 × Int) : Prop := ∃ x v, e = .returned (.tuple #[x, v, .int .i64 r.2.2]) ∧ AlV w Q x r.1 ∧ Bytes w Q' v r.2.1
end Go.Proofs.YtiikhjifjdpgdaaDoor
namespace Go.Proofs.YtiikhjifjdpgdaaDoor
open Go Go.RowKit Sh Leaf
namespace Sh

theorem fnd_snoc (l : List Me) (x : Me) (k m : List B8) : fnd (l ++ [x]) k m = match fnd l k m with | some t => some t | none => if x.key = k ∧ x.msg = m then some x.tag else none := by
  unfold fnd
  rw [List.find?_append]
  cases h : List.find? (fun e => decide (e.key = k ∧ e.msg = m)) l with
  | some e => rfl
  | none =>
    simp only [Option.none_or, Option.map_none]
    by_cases hx : x.key = k ∧ x.msg = m
    · rw [if_pos hx, List.find?_cons, decide_eq_true hx]; rfl
    · rw [if_neg hx, List.find?_cons, decide_eq_false hx]; rfl
theorem fnd_mem {l : List Me} {k m t : List B8} (h : fnd l k m = some t) : ∃ e ∈ l, e.key = k ∧ e.msg = m ∧ e.tag = t := by
  unfold fnd at h
  obtain ⟨e, he, rfl⟩ := Option.map_eq_some_iff.1 h
  have h1 := List.find?_some he
  have h2 : e.key = k ∧ e.msg = m := by simpa using h1
  exact ⟨e, List.mem_of_find?_eq_some he, h2.1, h2.2, rfl⟩
structure GoodA (a : Alg) : Prop where
  fm : ∀ e ∈ a.macs, fnd a.macs e.key e.msg = some e.tag
  cm : a.free = false → ∀ e ∈ a.macs, e.tag = hmac e.key e.msg
  lm : ∀ e ∈ a.macs, e.msg.length ≤ 4096
  fb : ∀ b ∈ a.boxes, fndb a.boxes b.key b.nonce b.plain = some b.box
  cb : a.free = false → ∀ b ∈ a.boxes, b.box = boxh b.key b.nonce b.plain ++ hmac b.key (boxw ++ boxh b.key b.nonce b.plain)
  lb : ∀ b ∈ a.boxes, b.plain.length ≤ 256
  nb : ∀ b ∈ a.boxes, 0 ≤ b.nonce ∧ b.nonce ≤ 281474976710656
  tb : a.free = true → ∀ (i : Nat) b, a.boxes[i]? = some b → b.box = sym 98#8 ((i + 1 : Nat) : Int) ++ List.replicate (b.plain.length + 8) 0
  tm : a.free = true → ∀ (i : Nat) e, a.macs[i]? = some e → e.tag = sym 109#8 ((i + 1 : Nat) : Int)
theorem snoc_get {α : Type} {l : List α} {x y : α} {i : Nat} (h : (l ++ [x])[i]? = some y) : l[i]? = some y ∨ (i = l.length ∧ y = x) := by
  rw [List.getElem?_append] at h
  split at h
  · exact .inl h
  · right
    obtain ⟨hi, h⟩ := List.getElem?_eq_some_iff.1 h
    have : i - l.length = 0 := by simp at hi; omega
    refine ⟨by omega, ?_⟩
    simp [this] at h
    exact h.symm
theorem good_new (f : Bool) (K : List B8) : GoodA ⟨f, K, 0, [], []⟩ := ⟨by simp, by simp, by simp, by simp, by simp, by simp, by simp, by simp, by simp⟩
theorem good_key {a : Alg} (h : GoodA a) : GoodA (aKey a).1 := by
  unfold aKey
  split
  · exact good_new _ _
  · exact ⟨h.fm, h.cm, h.lm, h.fb, h.cb, h.lb, h.nb, h.tb, h.tm⟩
theorem good_mac {a : Alg} {K m : List B8} (h : GoodA a) : GoodA (aMac a K m).1 := by
  unfold aMac
  split
  · exact good_new _ _
  rename_i hm
  split
  · exact h
  rename_i hf
  split
  · exact good_new _ _
  refine ⟨?_, ?_, ?_, h.fb, h.cb, h.lb, h.nb, h.tb, ?_⟩
  · intro e he
    show fnd (a.macs ++ [_]) _ _ = _
    rw [fnd_snoc]
    rcases List.mem_append.1 he with he | he
    · rw [h.fm e he]
    · rw [List.mem_singleton.1 he]
      simp only [hf]
      simp
  · intro hfr e he
    rcases List.mem_append.1 he with he | he
    · exact h.cm hfr e he
    · rw [List.mem_singleton.1 he]
      show ntag a K m = _
      unfold ntag
      rw [if_neg (by rw [show a.free = false from hfr]; simp)]
  · intro e he
    rcases List.mem_append.1 he with he | he
    · exact h.lm e he
    · rw [List.mem_singleton.1 he]
      show m.length ≤ 4096
      omega
  · intro hfr i e he
    rcases snoc_get he with he | ⟨rfl, rfl⟩
    · exact h.tm hfr i e he
    · show ntag a K m = _
      unfold ntag
      rw [if_pos hfr]
end Sh
end Go.Proofs.YtiikhjifjdpgdaaDoor
namespace Go.Proofs.YtiikhjifjdpgdaaDoor
open Go Go.RowKit Sh Leaf
namespace Sh

def nodew : List B8 := [110#8, 111#8, 100#8, 101#8]
def mintw : List B8 := [109#8, 105#8, 110#8, 116#8]
def cavw : List B8 := [99#8, 97#8, 118#8, 101#8, 97#8, 116#8]
def mintm (n : Nat) : List B8 := mintw ++ enc n
def cavm (c : Cav) : List B8 := cavw ++ cen c
def aNode (a : Alg) (k m : List B8) : Alg × List B8 × Int :=
  if (aMac a k m).2.2 ≠ 0 then (zalg, ztag, (aMac a k m).2.2)
  else if (aMac (aMac a k m).1 (aMac a k m).2.1 nodew).2.2 ≠ 0 then (zalg, ztag, (aMac (aMac a k m).1 (aMac a k m).2.1 nodew).2.2)
  else ((aMac (aMac a k m).1 (aMac a k m).2.1 nodew).1, (aMac a k m).2.1, 0)
structure Pss where
  epoch : Int
  serial : Int
  cavs : List Cav
  tag : List B8
deriving DecidableEq
abbrev zpss : Pss := ⟨0, 0, [], ztag⟩
def minto (z s : Int) : Prop := 1 ≤ z ∧ z ≤ 1000 ∧ 1 ≤ s ∧ s ≤ 1073741824
instance (z s : Int) : Decidable (minto z s) := by unfold minto; infer_instance
def pMint (a : Alg) (z : Int) (k : List B8) (s : Int) : Alg × Pss × Int :=
  if minto z s then (if (aNode a k (mintm s.toNat)).2.2 ≠ 0 then (zalg, zpss, (aNode a k (mintm s.toNat)).2.2) else ((aNode a k (mintm s.toNat)).1, ⟨z, s, [], (aNode a k (mintm s.toNat)).2.1⟩, 0))
  else (zalg, zpss, 1)
def thirds (l : List Cav) : Nat := (l.filter fun c => c.third).length
def roomc (l : List Cav) (c : Cav) : Prop := l.length < 64 ∧ (c.third = true → thirds l < 8)
instance (l : List Cav) (c : Cav) : Decidable (roomc l c) := by unfold roomc; infer_instance
def pAtt (a : Alg) (p : Pss) (c : Cav) : Alg × Pss × Int :=
  if cvok c then (if roomc p.cavs c then (if (aNode a p.tag (cavm c)).2.2 ≠ 0 then (zalg, zpss, (aNode a p.tag (cavm c)).2.2) else ((aNode a p.tag (cavm c)).1, ⟨p.epoch, p.serial, p.cavs ++ [c], (aNode a p.tag (cavm c)).2.1⟩, 0)) else (zalg, zpss, 2))
  else (zalg, zpss, 5)
theorem cavm_len {c : Cav} (h : cvok c) : (cavm c).length ≤ 2200 := by
  have := cen_len h
  unfold cavm cavw
  simp only [List.length_append, List.length_cons, List.length_nil]
  omega
theorem mintm_len {n : Nat} (h : n ≤ 281474976710656) : (mintm n).length ≤ 20 := by
  have := enc_len7 h
  unfold mintm mintw
  simp only [List.length_append, List.length_cons, List.length_nil]
  omega
theorem mac_tag (a : Alg) (k m : List B8) (h : (aMac a k m).2.2 = 0) : ∃ (i : Nat) (e : Me), (aMac a k m).1.macs[i]? = some e ∧ e.key = k ∧ e.msg = m ∧ e.tag = (aMac a k m).2.1 := by
  unfold aMac at h ⊢
  by_cases h1 : 4096 < m.length
  · rw [if_pos h1] at h; exact absurd h (by decide)
  rw [if_neg h1] at h ⊢
  cases hq : fnd a.macs k m with
  | some t =>
    simp only [hq] at h ⊢
    obtain ⟨e, he, h2, h3, h4⟩ := fnd_mem hq
    obtain ⟨i, hi⟩ := List.getElem?_of_mem he
    exact ⟨i, e, hi, h2, h3, h4⟩
  | none =>
    simp only [hq] at h ⊢
    by_cases h2 : 65536 ≤ a.macs.length
    · rw [if_pos h2] at h; exact absurd h (by decide)
    rw [if_neg h2]
    exact ⟨a.macs.length, ⟨k, m, ntag a k m⟩, by simp, rfl, rfl, rfl⟩
theorem mac_keeps (a : Alg) (k m : List B8) (h : (aMac a k m).2.2 = 0) : (aMac a k m).1.free = a.free ∧ (aMac a k m).1.seed = a.seed ∧ (aMac a k m).1.fresh = a.fresh ∧ (aMac a k m).1.boxes = a.boxes ∧ (∃ l, (aMac a k m).1.macs = a.macs ++ l ∧ l.length ≤ 1) := by
  unfold aMac at h ⊢
  by_cases h1 : 4096 < m.length
  · rw [if_pos h1] at h; exact absurd h (by decide)
  rw [if_neg h1] at h ⊢
  cases hq : fnd a.macs k m with
  | some t => exact ⟨rfl, rfl, rfl, rfl, [], by simp, by simp⟩
  | none =>
    simp only [hq] at h ⊢
    by_cases h2 : 65536 ≤ a.macs.length
    · rw [if_pos h2] at h; exact absurd h (by decide)
    rw [if_neg h2]
    exact ⟨rfl, rfl, rfl, rfl, [_], rfl, by simp⟩
theorem mac_done (a : Alg) (k m : List B8) (hm : m.length ≤ 4096) (ha : a.macs.length < 65536) : (aMac a k m).2.2 = 0 := by
  unfold aMac
  rw [if_neg (by omega)]
  cases hq : fnd a.macs k m with
  | some t => rfl
  | none => simp only; rw [if_neg (by omega)]
theorem mac_len (a : Alg) (k m : List B8) : (aMac a k m).2.1.length = 32 ∨ ∃ e ∈ a.macs, (aMac a k m).2.1 = e.tag := by
  unfold aMac
  split
  · exact .inl (by simp)
  split
  · rename_i h
    obtain ⟨e, he, -, -, h4⟩ := fnd_mem h
    exact .inr ⟨e, he, h4.symm⟩
  · split
    · exact .inl (by simp)
    · exact .inl (ntag_length _ _ _)
theorem node_ok {a b : Alg} {k m t : List B8} (h : aNode a k m = (b, t, 0)) (hg : GoodA a) (hf : a.free = true) :
    GoodA b ∧ b.free = true ∧ b.fresh = a.fresh ∧ b.seed = a.seed ∧ (∃ l, b.macs = a.macs ++ l ∧ l.length ≤ 2) ∧ ∃ (i : Nat) (e : Me), b.macs[i]? = some e ∧ e.key = k ∧ e.msg = m ∧ e.tag = t := by
  unfold aNode at h
  by_cases h1 : (aMac a k m).2.2 = 0
  case neg => rw [if_pos h1] at h; injection h with _ h; injection h with _ h; exact absurd h h1
  rw [if_neg (by rw [h1]; simp)] at h
  by_cases h2 : (aMac (aMac a k m).1 (aMac a k m).2.1 nodew).2.2 = 0
  case neg => rw [if_pos h2] at h; injection h with _ h; injection h with _ h; exact absurd h h2
  rw [if_neg (by rw [h2]; simp)] at h
  injection h with hb h
  injection h with ht _
  obtain ⟨i, e, hi, he1, he2, he3⟩ := mac_tag a k m h1
  obtain ⟨f1, f2, f3, f4, l1, q1, q2⟩ := mac_keeps a k m h1
  obtain ⟨g1, g2, g3, g4, l2, r1, r2⟩ := mac_keeps _ _ nodew h2
  have g := good_mac (K := (aMac a k m).2.1) (m := nodew) (good_mac (K := k) (m := m) hg)
  subst hb ht
  refine ⟨g, by rw [g1, f1, hf], by rw [g3, f3], by rw [g2, f2], ⟨l1 ++ l2, by rw [r1, q1, List.append_assoc], by rw [List.length_append]; omega⟩, i, e, ?_, he1, he2, he3⟩
  rw [r1, List.getElem?_append_left (by obtain ⟨h, _⟩ := List.getElem?_eq_some_iff.1 hi; exact h)]
  exact hi
theorem node_done {a : Alg} {k m : List B8} (hm : m.length ≤ 4096) (ha : a.macs.length < 65500) : (aNode a k m).2.2 = 0 := by
  have h1 := mac_done a k m hm (by omega)
  obtain ⟨f1, f2, f3, f4, l1, q1, q2⟩ := mac_keeps a k m h1
  have h2 := mac_done (aMac a k m).1 (aMac a k m).2.1 nodew (by decide) (by rw [q1, List.length_append]; omega)
  unfold aNode
  rw [if_neg (by rw [h1]; simp), if_neg (by rw [h2]; simp)]
inductive Chn (a : Alg) (k : List B8) : List (List B8) → List B8 → Prop
  | nil : Chn a k [] k
  | snoc {l : List (List B8)} {t m : List B8} {e : Me} {i : Nat} : Chn a k l t → a.macs[i]? = some e → e.key = t → e.msg = m → Chn a k (m :: l) e.tag
theorem Chn.grow {a b : Alg} {k t : List B8} {l : List (List B8)} (h : Chn a k l t) (hb : ∃ x, b.macs = a.macs ++ x ∧ x.length ≤ 2) : Chn b k l t := by
  obtain ⟨x, hx, -⟩ := hb
  induction h with
  | nil => exact .nil
  | snoc h1 h2 h3 h4 ih => exact .snoc ih (by rw [hx, List.getElem?_append_left (by obtain ⟨h, _⟩ := List.getElem?_eq_some_iff.1 h2; exact h)]; exact h2) h3 h4
theorem entries_one {a : Alg} (hg : GoodA a) (hf : a.free = true) (hl : a.macs.length < 100000) {i j : Nat} {e f : Me} (hi : a.macs[i]? = some e) (hj : a.macs[j]? = some f) (h : e.tag = f.tag) : e = f := by
  have h1 := hg.tm hf i e hi
  have h2 := hg.tm hf j f hj
  have hi' : i < a.macs.length := by obtain ⟨h, _⟩ := List.getElem?_eq_some_iff.1 hi; exact h
  have hj' : j < a.macs.length := by obtain ⟨h, _⟩ := List.getElem?_eq_some_iff.1 hj; exact h
  rw [h1, h2] at h
  obtain ⟨-, h3⟩ := sym_nat (by omega) (by omega) h
  have : i = j := by omega
  subst this
  rw [hi] at hj
  injection hj
theorem Chn.unique {a : Alg} {k t : List B8} {l l' : List (List B8)} {z : Int} (hg : GoodA a) (hf : a.free = true) (hl : a.macs.length < 100000) (hk : k = sym 107#8 z) (h : Chn a k l t) (h' : Chn a k l' t) : l = l' := by
  induction h generalizing l' with
  | nil =>
    generalize ht : k = t at h'
    cases h' with
    | nil => rfl
    | snoc g1 g2 g3 g4 =>
      exfalso
      have := hg.tm hf _ _ g2
      rw [← ht, hk] at this
      exact absurd (sym_inj this).1 (by decide)
  | snoc h1 h2 h3 h4 ih =>
    rename_i l0 t0 m0 e0 i0
    generalize ht : e0.tag = t at h'
    cases h' with
    | nil =>
      exfalso
      have := hg.tm hf _ _ h2
      rw [ht, hk] at this
      exact absurd (sym_inj this).1 (by decide)
    | snoc g1 g2 g3 g4 =>
      have e1 := entries_one hg hf hl h2 g2 ht
      subst e1
      rw [← g4, h4]
      rw [← g3, h3] at g1
      rw [ih g1]
theorem Chn.same {a : Alg} {k t t' : List B8} {l : List (List B8)} (hg : GoodA a) (h : Chn a k l t) (h' : Chn a k l t') : t = t' := by
  induction h generalizing t' with
  | nil => cases h'; rfl
  | snoc h1 h2 h3 h4 ih =>
    rename_i l0 t0 m0 e0 i0
    generalize hl : m0 :: l0 = L at h'
    cases h' with
    | nil => cases hl
    | snoc g1 g2 g3 g4 =>
      injection hl with q1 q2
      subst q1 q2
      have e1 := ih g1
      have m1 := hg.fm _ (List.mem_of_getElem? h2)
      have m2 := hg.fm _ (List.mem_of_getElem? g2)
      rw [h3, h4] at m1
      rw [g3, g4, ← e1] at m2
      rw [m1] at m2
      injection m2
def msgs (s : Int) (l : List Cav) : List (List B8) := (l.map cavm).reverse ++ [mintm s.toNat]
theorem enc_inj {n m : Nat} (hn : n ≤ 281474976710656) (hm : m ≤ 281474976710656) (h : enc n = enc m) : n = m := by
  have h1 := rd_enc n hn []
  have h2 := rd_enc m hm []
  rw [h, h2] at h1
  injection h1 with h1
  exact h1.symm
theorem cavs_inj {l k : List Cav} (hl : ∀ c ∈ l, cvok c ∧ c.first.mask < 2 ^ 64) (hk : ∀ c ∈ k, cvok c ∧ c.first.mask < 2 ^ 64) (h : l.map cavm = k.map cavm) : l = k := by
  induction l generalizing k with
  | nil => cases k with
    | nil => rfl
    | cons => cases h
  | cons c l ih => cases k with
    | nil => cases h
    | cons d k =>
      simp only [List.map_cons] at h
      injection h with h1 h2
      have hc := hl c (by simp)
      have hd := hk d (by simp)
      rw [cen_inj hc.1 hd.1 hc.2 hd.2 (List.append_cancel_left h1), ih (fun x hx => hl x (by simp [hx])) (fun x hx => hk x (by simp [hx])) h2]
theorem msgs_inj {s r : Int} {l k : List Cav} (hs : 1 ≤ s ∧ s ≤ 1073741824) (hr : 1 ≤ r ∧ r ≤ 1073741824) (hl : ∀ c ∈ l, cvok c ∧ c.first.mask < 2 ^ 64) (hk : ∀ c ∈ k, cvok c ∧ c.first.mask < 2 ^ 64) (h : msgs s l = msgs r k) : s = r ∧ l = k := by
  have h1 := congrArg List.reverse h
  unfold msgs at h1
  rw [List.reverse_append, List.reverse_append, List.reverse_reverse, List.reverse_reverse] at h1
  simp only [List.reverse_singleton, List.singleton_append] at h1
  injection h1 with h2 h3
  have h4 := enc_inj (n := s.toNat) (m := r.toNat) (by omega) (by omega) (List.append_cancel_left h2)
  exact ⟨by omega, cavs_inj hl hk h3⟩
theorem pass_free {a : Alg} {k t u : List B8} {s r z : Int} {l m : List Cav} (hg : GoodA a) (hf : a.free = true) (hn : a.macs.length < 100000) (hk : k = sym 107#8 z) (hs : 1 ≤ s ∧ s ≤ 1073741824) (hr : 1 ≤ r ∧ r ≤ 1073741824) (hl : ∀ c ∈ l, cvok c ∧ c.first.mask < 2 ^ 64) (hm : ∀ c ∈ m, cvok c ∧ c.first.mask < 2 ^ 64)
    (h1 : Chn a k (msgs s l) t) (h2 : Chn a k (msgs r m) u) : decide (t = u) = (decide (s = r) && decide (l = m)) := by
  by_cases h : t = u
  · subst h
    obtain ⟨rfl, rfl⟩ := msgs_inj hs hr hl hm (Chn.unique hg hf hn hk h1 h2)
    simp
  · rw [decide_eq_false h]
    by_cases h3 : s = r ∧ l = m
    · obtain ⟨rfl, rfl⟩ := h3
      exact absurd (Chn.same hg h1 h2) h
    · rw [← Bool.decide_and, decide_eq_false h3]
end Sh
end Go.Proofs.YtiikhjifjdpgdaaDoor
namespace Go.Proofs.YtiikhjifjdpgdaaDoor
open Go Go.RowKit Sh Leaf

theorem key_freeA : aKey freeA = (⟨true, ztag, 1, [], []⟩, sym 107#8 1, 0) := by
  unfold aKey freeA
  rw [if_neg (by decide)]
  rfl
theorem mint_chn {a : Alg} {K : List B8} {s : Int} {R : Alg × Pss × Int} (hg : GoodA a) (hf : a.free = true) (hn : a.macs.length ≤ 100) (hs : 1 ≤ s ∧ s ≤ 3) (hR : R = pMint a 1 K s) :
    R.2.2 = 0 ∧ GoodA R.1 ∧ R.1.free = true ∧ (∃ x, R.1.macs = a.macs ++ x ∧ x.length ≤ 2) ∧ R.2.1.cavs = [] ∧ Chn R.1 K (msgs s []) R.2.1.tag := by
  subst hR
  have hd := node_done (a := a) (k := K) (m := mintm s.toNat) (by have := mintm_len (n := s.toNat) (by omega); omega) (by omega)
  obtain ⟨R, hR⟩ : ∃ R, R = aNode a K (mintm s.toNat) := ⟨_, rfl⟩
  rw [← hR] at hd
  obtain ⟨b, t, e⟩ := R
  dsimp only at hd
  subst hd
  obtain ⟨h1, h2, -, -, h5, i, e, hi, he1, he2, he3⟩ := node_ok hR.symm hg hf
  unfold pMint
  rw [if_pos (by unfold minto; omega), ← hR, if_neg (by simp)]
  refine ⟨rfl, h1, h2, h5, rfl, ?_⟩
  have := Chn.snoc (Chn.nil (a := b) (k := K)) hi he1 he2
  rw [he3] at this
  exact this
theorem att_chn {a : Alg} {p : Pss} {c : Cav} {K : List B8} {s : Int} {R : Alg × Pss × Int} (hg : GoodA a) (hf : a.free = true) (hn : a.macs.length ≤ 100) (hc : cvok c) (hl : p.cavs.length ≤ 4) (hch : Chn a K (msgs s p.cavs) p.tag) (hR : R = pAtt a p c) :
    R.2.2 = 0 ∧ GoodA R.1 ∧ R.1.free = true ∧ (∃ x, R.1.macs = a.macs ++ x ∧ x.length ≤ 2) ∧ R.2.1.cavs = p.cavs ++ [c] ∧ Chn R.1 K (msgs s (p.cavs ++ [c])) R.2.1.tag := by
  subst hR
  have hd := node_done (a := a) (k := p.tag) (m := cavm c) (by have := cavm_len hc; omega) (by omega)
  obtain ⟨R, hR⟩ : ∃ R, R = aNode a p.tag (cavm c) := ⟨_, rfl⟩
  rw [← hR] at hd
  obtain ⟨b, t, e⟩ := R
  dsimp only at hd
  subst hd
  obtain ⟨h1, h2, -, -, h5, i, e, hi, he1, he2, he3⟩ := node_ok hR.symm hg hf
  have hroom : roomc p.cavs c := by
    unfold roomc thirds
    have := List.length_filter_le (fun c : Cav => c.third) p.cavs
    exact ⟨by omega, fun _ => by omega⟩
  unfold pAtt
  rw [if_pos hc, if_pos hroom, ← hR, if_neg (by simp)]
  refine ⟨rfl, h1, h2, h5, rfl, ?_⟩
  have := Chn.snoc (hch.grow h5) hi he1 he2
  rw [he3] at this
  have e1 : msgs s (p.cavs ++ [c]) = cavm c :: msgs s p.cavs := by
    unfold msgs
    simp
  show Chn b K (msgs s (p.cavs ++ [c])) t
  rw [e1]
  exact this
theorem good_key1 : GoodA ⟨true, ztag, 1, [], []⟩ := by
  have := good_key (good_new true ztag)
  have e : aKey ⟨true, ztag, 0, [], []⟩ = (⟨true, ztag, 1, [], []⟩, sym 107#8 1, 0) := key_freeA
  rw [e] at this
  exact this
end Go.Proofs.YtiikhjifjdpgdaaDoor
namespace Go.Proofs.YtiikhjifjdpgdaaDoor
open Go Go.RowKit Sh Leaf

theorem madeSize : (Tryd.prog.info? 134).map (·.size) = some 68 := by kernel_rfl
theorem passSize : (Tryd.prog.info? 51).map (·.size) = some 35 := by kernel_rfl
structure MdM where
  a : Alg
  Am : Option Addr
  cm : Nat
  Ab : Option Addr
  cb : Nat
  T : List B8
def mal (x : MdM) : List Value := alcl x.a.free x.a.seed x.a.fresh (.slice x.Am x.a.macs.length x.cm) (.slice x.Ab x.a.boxes.length x.cb)
def mdl (x : MdM) : List Value := mal x ++ (p32 x.T).map byt
theorem mal_len (x : MdM) : (mal x).length = 36 := by unfold mal alcl; rw [List.length_cons, List.length_append, p32_cells]; rfl
theorem mdl_len (x : MdM) : (mdl x).length = 68 := by unfold mdl; rw [List.length_append, mal_len, p32_cells]
theorem mdl_size (x : MdM) : (mdl x).toArray.size = 68 := by rw [List.size_toArray, mdl_len]
theorem mdl_one (x : MdM) : ∀ v ∈ mdl x, v.oneCell' = true := by
  intro v hv
  unfold mdl mal alcl at hv
  rw [List.mem_append, List.mem_cons, List.mem_append] at hv
  rcases hv with (rfl | hv | hv) | hv
  · rfl
  · exact byt_one _ v hv
  · simp at hv
    rcases hv with rfl | rfl | rfl <;> rfl
  · exact byt_one _ v hv
theorem mdl_all (x : MdM) : (mdl x).toArray.all (·.oneCell') = true := all_oneCell_toArray (mdl_one x)
set_option maxRecDepth 100000 in
theorem built_made {a : Alg} {T : List B8} (hT : T.length = 32) (Am Ab : Option Addr) (cm cb : Nat) : Tryd.prog.built 134 [(0, .agg (alc a.free a.seed a.fresh (.slice Am a.macs.length cm) (.slice Ab a.boxes.length cb))), (1, .agg (T.map byt).toArray)] = some (mdl ⟨a, Am, cm, Ab, cb, T⟩).toArray := by
  unfold mdl mal alc alcl
  dsimp only
  rw [p32_eq hT]
  obtain ⟨a0, a1, a2, a3, a4, a5, a6, a7, a8, a9, a10, a11, a12, a13, a14, a15, a16, a17, a18, a19, a20, a21, a22, a23, a24, a25, a26, a27, a28, a29, a30, a31, hk⟩ := ex32 (p32 a.seed) (p32_length _)
  obtain ⟨b0, b1, b2, b3, b4, b5, b6, b7, b8, b9, b10, b11, b12, b13, b14, b15, b16, b17, b18, b19, b20, b21, b22, b23, b24, b25, b26, b27, b28, b29, b30, b31, ht⟩ := ex32 T hT
  rw [hk, ht]
  generalize a.macs.length = n
  generalize a.boxes.length = m
  generalize a.free = f
  generalize a.fresh = z
  clear hk ht
  simp only [List.map_cons, List.map_nil]
  kernel_rfl
set_option maxRecDepth 100000 in
theorem bs_made (x : MdM) : Tryd.prog.builtSlice 134 1 [(0, .agg (mdl x).toArray)] = some (mdl x).toArray := by
  unfold mdl mal alcl
  obtain ⟨a0, a1, a2, a3, a4, a5, a6, a7, a8, a9, a10, a11, a12, a13, a14, a15, a16, a17, a18, a19, a20, a21, a22, a23, a24, a25, a26, a27, a28, a29, a30, a31, hk⟩ := ex32 (p32 x.a.seed) (p32_length _)
  obtain ⟨b0, b1, b2, b3, b4, b5, b6, b7, b8, b9, b10, b11, b12, b13, b14, b15, b16, b17, b18, b19, b20, b21, b22, b23, b24, b25, b26, b27, b28, b29, b30, b31, ht⟩ := ex32 (p32 x.T) (p32_length _)
  rw [hk, ht]
  generalize x.a.macs.length = n
  generalize x.a.boxes.length = m
  generalize x.a.free = f
  generalize x.a.fresh = z
  generalize x.Am = D
  generalize x.cm = c
  generalize x.Ab = D2
  generalize x.cb = c2
  clear hk ht
  simp only [List.map_cons, List.map_nil]
  kernel_rfl
theorem zmd_size : (Tryd.zeroCells134).size = 68 := Tryd.zeroCells134_size
@[irreducible] def zps : Array Value := #[.int .i64 0, .int .i64 0, .slice none 0 0, .int .u8 0, .int .u8 0, .int .u8 0, .int .u8 0, .int .u8 0, .int .u8 0, .int .u8 0, .int .u8 0, .int .u8 0, .int .u8 0, .int .u8 0, .int .u8 0, .int .u8 0, .int .u8 0, .int .u8 0, .int .u8 0, .int .u8 0, .int .u8 0, .int .u8 0, .int .u8 0, .int .u8 0, .int .u8 0, .int .u8 0, .int .u8 0, .int .u8 0, .int .u8 0, .int .u8 0, .int .u8 0, .int .u8 0, .int .u8 0, .int .u8 0, .int .u8 0]
theorem zps_lit : (#[.int .i64 0, .int .i64 0, .slice none 0 0, .int .u8 0, .int .u8 0, .int .u8 0, .int .u8 0, .int .u8 0, .int .u8 0, .int .u8 0, .int .u8 0, .int .u8 0, .int .u8 0, .int .u8 0, .int .u8 0, .int .u8 0, .int .u8 0, .int .u8 0, .int .u8 0, .int .u8 0, .int .u8 0, .int .u8 0, .int .u8 0, .int .u8 0, .int .u8 0, .int .u8 0, .int .u8 0, .int .u8 0, .int .u8 0, .int .u8 0, .int .u8 0, .int .u8 0, .int .u8 0, .int .u8 0, .int .u8 0] : Array Value) = zps := by unfold zps; rfl
theorem zps_size : zps.size = 35 := by unfold zps; rfl
abbrev zmade : Value := .agg #[.bool false, .int .u8 0, .int .u8 0, .int .u8 0, .int .u8 0, .int .u8 0, .int .u8 0, .int .u8 0, .int .u8 0, .int .u8 0, .int .u8 0, .int .u8 0, .int .u8 0, .int .u8 0, .int .u8 0, .int .u8 0, .int .u8 0, .int .u8 0, .int .u8 0, .int .u8 0, .int .u8 0, .int .u8 0, .int .u8 0, .int .u8 0, .int .u8 0, .int .u8 0, .int .u8 0, .int .u8 0, .int .u8 0, .int .u8 0, .int .u8 0, .int .u8 0, .int .u8 0, .int .i64 0, .slice none 0 0, .slice none 0 0, .int .u8 0, .int .u8 0, .int .u8 0, .int .u8 0, .int .u8 0, .int .u8 0, .int .u8 0, .int .u8 0, .int .u8 0, .int .u8 0, .int .u8 0, .int .u8 0, .int .u8 0, .int .u8 0, .int .u8 0, .int .u8 0, .int .u8 0, .int .u8 0, .int .u8 0, .int .u8 0, .int .u8 0, .int .u8 0, .int .u8 0, .int .u8 0, .int .u8 0, .int .u8 0, .int .u8 0, .int .u8 0, .int .u8 0, .int .u8 0, .int .u8 0, .int .u8 0]
theorem madeInfo : (Tryd.prog.info? 134).map (fun i => (i.zero, i.size, i.bytes)) = some (some zmade, 68, 128) := by kernel_rfl
theorem zmade_size : zmade.cells.size = 68 := rfl
theorem wpList_build_made {w : World} {ops : Array Oper} {rest : List Oper} {o : Oper} {a : Act} {Q : Exit → Act → World → Prop} (hgd : o.guard = none) (x y : Operand) (ho : o.op = .build 134 #[(0, x), (1, y)])
    {b : Alg} {T : List B8} (hT : T.length = 32) {Am Ab : Option Addr} {cm cb : Nat} (hx : a.eval x = .agg (alc b.free b.seed b.fresh (.slice Am b.macs.length cm) (.slice Ab b.boxes.length cb))) (hy : a.eval y = .agg (T.map byt).toArray)
    (h : wpList Tryd.prog ops Q rest (a.put o.dst (.agg (mdl ⟨b, Am, cm, Ab, cb, T⟩).toArray)) w) : wpList Tryd.prog ops Q (o :: rest) a w := by
  refine wpList_build_as hgd 134 _ ho _ ?_ h
  have e : (#[(0, x), (1, y)].map fun (i, x) => (i, a.eval x)).toList = [(0, .agg (alc b.free b.seed b.fresh (.slice Am b.macs.length cm) (.slice Ab b.boxes.length cb))), (1, .agg (T.map byt).toArray)] := by simp [hx, hy]
  rw [e]
  exact built_made hT Am Ab cm cb
section
variable {w : World} {g : Nat} {ops : Array Oper} {rest : List Oper} {o : Oper} {a : Act} {Q : Exit → Act → World → Prop}
theorem wpList_load_made (hgd : o.guard = none) (x : Operand) (ho : o.op = .load 134 x)
    (hx : a.eval x = .pointer (some ⟨g, 0, none⟩)) {cs : Array Value} (hg : Whole w g 134 cs) (h8 : cs.size = 68) (h : wpList Tryd.prog ops Q rest (a.put o.dst (.agg cs)) w) : wpList Tryd.prog ops Q (o :: rest) a w :=
  wpList_load_row hgd 134 x ho g hx 134 _ (0, 0) _ hg Tryd.underlying134 rfl (by rw [madeSize, h8]) h
theorem wpList_store_made (hgd : o.guard = none) (x y : Operand) (ho : o.op = .store 134 x y)
    (hx : a.eval x = .pointer (some ⟨g, 0, none⟩)) {cs cs' : Array Value} (hy : a.eval y = .agg cs') (hg : Whole w g 134 cs) (h8 : cs.size = 68) (h8' : cs'.size = 68) (hone : cs'.all (·.oneCell') = true)
    (h : wpList Tryd.prog ops Q rest (a.put o.dst undef) (w.setRow g cs')) : wpList Tryd.prog ops Q (o :: rest) a w :=
  wpList_store_row hgd 134 x y ho g _ hx hy 134 _ hg (by rw [madeSize, h8']) (by rw [h8, h8']) hone h
theorem wpList_buildSlice_made (hg : o.guard = none) (x : Operand) (ho : o.op = .buildSlice 130 1 #[(0, x)])
    (N : Nat) (hN : w.heap.size = N) (dst : Option Tmp) (hdst : o.dst = dst) {X : MdM} (hx : a.eval x = .agg (mdl X).toArray)
    (h : wpList Tryd.prog ops Q rest (a.put dst (.slice (some ⟨N, 0, none⟩) 1 1)) (w.alloc (.cells (mdl X).toArray 134))) : wpList Tryd.prog ops Q (o :: rest) a w := by
  refine Great.wpList_buildSliceTo hg 130 134 1 _ ho N hN dst hdst Tryd.underlying130 _ ?_ h
  have e1 : (#[(0, x)].map fun (i, x) => (i, a.eval x)).toList = [(0, .agg (mdl X).toArray)] := by simp [hx]
  rw [e1]
  exact bs_made X
end
theorem mdl_alg {w : World} {g o : Nat} {x : MdM} (h : w.rangeAt g o (mdl x)) : w.rangeAt g o (mal x) := fun i v hv => h i v (by
  unfold mdl
  rw [List.getElem?_append_left (List.getElem?_eq_some_iff.1 hv).1]
  exact hv)
theorem mdl_tag {w : World} {g o : Nat} {x : MdM} (h : w.rangeAt g o (mdl x)) : w.rangeAt g (o + 36) ((p32 x.T).map byt) := fun i v hv => by
  rw [show o + 36 + i = o + (36 + i) by omega]
  refine h (36 + i) v ?_
  unfold mdl
  rw [List.getElem?_append_right (by rw [mal_len]; omega), mal_len, show 36 + i - 36 = i by omega]
  exact hv
end Go.Proofs.YtiikhjifjdpgdaaDoor
namespace Go.Proofs.YtiikhjifjdpgdaaDoor
open Go Go.RowKit Sh Leaf

structure CvM where
  e : Cav
  A1 : Option Addr
  c1 : Nat
  A2 : Option Addr
  c2 : Nat
def cvl (x : CvM) : List Value := [.bool x.e.third, .int .i64 x.e.first.kind, .int .u64 (x.e.first.mask : Int), .int .i64 x.e.first.lo, .int .i64 x.e.first.hi, .string (sof x.e.first.name), .int .i64 x.e.first.num, .int .i64 x.e.party, .slice x.A1 x.e.ticket.length x.c1, .slice x.A2 x.e.box.length x.c2]
theorem cvl_len (x : CvM) : (cvl x).length = 10 := rfl
theorem cvl_one (x : CvM) : ∀ v ∈ cvl x, v.oneCell' = true := by
  intro v hv
  simp [cvl] at hv
  rcases hv with rfl | rfl | rfl | rfl | rfl | rfl | rfl | rfl | rfl | rfl <;> rfl
def cmok (x : CvM) : Prop := Cwf x.e
def Cavs (w : World) (Q : Nat → Prop) (A : Option Addr) (c : Nat) (l : List Cav) : Prop := ∃ L : List CvM, L.map (·.e) = l ∧ Seq cvl cmok w Q A c L ∧ ∀ x ∈ L, Bytes w Q (.slice x.A1 x.e.ticket.length x.c1) x.e.ticket ∧ Bytes w Q (.slice x.A2 x.e.box.length x.c2) x.e.box
section
variable {w w' : World} {Q Q' : Nat → Prop} {A : Option Addr} {c : Nat} {l : List Cav}
theorem Cavs.keep (h : Cavs w Q A c l) (hs : w.heap.size ≤ w'.heap.size) (hk : ∀ g, g < w.heap.size → Q g → w'.heap[g]? = w.heap[g]?) : Cavs w' Q A c l := by
  obtain ⟨L, h1, h2, h3⟩ := h
  exact ⟨L, h1, h2.keep hs hk, fun x hx => ⟨(h3 x hx).1.keep hk, (h3 x hx).2.keep hk⟩⟩
theorem Cavs.mono (h : Cavs w Q A c l) (hq : ∀ g, g < w.heap.size → Q g → Q' g) : Cavs w Q' A c l := by
  obtain ⟨L, h1, h2, h3⟩ := h
  exact ⟨L, h1, h2.mono hq, fun x hx => ⟨(h3 x hx).1.mono hq, (h3 x hx).2.mono hq⟩⟩
theorem Cavs.below {B : Nat} (h : Cavs w Q A c l) (hb : Below B w w') (hB : w.heap.size ≤ B) : Cavs w' Q A c l := h.keep hb.size fun g hg _ => hb.block g (by omega)
theorem Cavs.nil (w : World) (Q : Nat → Prop) : Cavs w Q none 0 [] := ⟨[], rfl, Seq.nil _ _, fun x h => by simp at h⟩
theorem Cavs.cvs (h : Cavs w Q A c l) : Cvs w A l := fun i x hx => by
  obtain ⟨L, rfl, hS, hB⟩ := h
  rw [List.getElem?_map] at hx
  obtain ⟨y, hy, rfl⟩ := Option.map_eq_some_iff.1 hx
  obtain ⟨g, o, rfl, hq, hg, hc⟩ := Seq.get cvl_len hS i y hy
  have hm := List.mem_of_getElem? hy
  exact ⟨g, o, y.A1, y.c1, y.A2, y.c2, rfl, hg, fun j v hv => hc j v hv, (hB y hm).1.mono fun _ _ _ => trivial, (hB y hm).2.mono fun _ _ _ => trivial, hS.2.2.2.1 y hm⟩
end
def psl (z s : Int) (vc : Value) (T : List B8) : List Value := .int .i64 z :: .int .i64 s :: vc :: (p32 T).map byt
def epl (z : Int) (K : List B8) : List Value := .int .i64 z :: (p32 K).map byt
theorem psl_len (z s : Int) (vc : Value) (T : List B8) : (psl z s vc T).length = 35 := by unfold psl; simp only [List.length_cons, p32_cells]
theorem epl_len (z : Int) (K : List B8) : (epl z K).length = 33 := by unfold epl; simp only [List.length_cons, p32_cells]
theorem psl_size (z s : Int) (vc : Value) (T : List B8) : (psl z s vc T).toArray.size = 35 := by rw [List.size_toArray, psl_len]
theorem epl_size (z : Int) (K : List B8) : (epl z K).toArray.size = 33 := by rw [List.size_toArray, epl_len]
theorem psl_one (z s : Int) (A : Option Addr) (n c : Nat) (T : List B8) : (psl z s (.slice A n c) T).toArray.all (·.oneCell') = true := all_oneCell_toArray (by
  intro v hv
  unfold psl at hv
  simp only [List.mem_cons] at hv
  rcases hv with rfl | rfl | rfl | hv
  · rfl
  · rfl
  · rfl
  · exact byt_one _ v hv)
theorem epl_one (z : Int) (K : List B8) : (epl z K).toArray.all (·.oneCell') = true := all_oneCell_toArray (by
  intro v hv
  unfold epl at hv
  simp only [List.mem_cons] at hv
  rcases hv with rfl | hv
  · rfl
  · exact byt_one _ v hv)
def PssV (w : World) (Q : Nat → Prop) (v : Value) (p : Pss) : Prop := ∃ A c, v = .agg (psl p.epoch p.serial (.slice A p.cavs.length c) p.tag).toArray ∧ Cavs w Q A c p.cavs ∧ p.tag.length = 32
theorem PssV.mono {w : World} {Q Q' : Nat → Prop} {v : Value} {p : Pss} (h : PssV w Q v p) (hq : ∀ g, g < w.heap.size → Q g → Q' g) : PssV w Q' v p := by
  obtain ⟨A, c, h1, h2, h3⟩ := h
  exact ⟨A, c, h1, h2.mono hq, h3⟩
theorem PssV.keep {w w' : World} {Q : Nat → Prop} {v : Value} {p : Pss} (h : PssV w Q v p) (hs : w.heap.size ≤ w'.heap.size) (hk : ∀ g, g < w.heap.size → Q g → w'.heap[g]? = w.heap[g]?) : PssV w' Q v p := by
  obtain ⟨A, c, h1, h2, h3⟩ := h
  exact ⟨A, c, h1, h2.keep hs hk, h3⟩
theorem PssV.below {w w' : World} {B : Nat} {Q : Nat → Prop} {v : Value} {p : Pss} (h : PssV w Q v p) (hb : Below B w w') (hB : w.heap.size ≤ B) : PssV w' Q v p := h.keep hb.size fun g hg _ => hb.block g (by omega)
theorem zps_eq : zps = (psl 0 0 (.slice none 0 0) ztag).toArray := by
  unfold zps psl
  rw [p32_eq (by simp)]
  simp only [List.map_replicate, byt, bv_zero]
  rfl
theorem pss_zero (w : World) (Q : Nat → Prop) : PssV w Q (.agg zps) zpss := ⟨none, 0, by rw [zps_eq]; rfl, Cavs.nil _ _, by simp⟩
def PssR (w' : World) (Q : Nat → Prop) (e : Ending) (r : Alg × Pss × Int) : Prop := ∃ v u, e = .returned (.tuple #[v, u, .int .i64 r.2.2]) ∧ AlV w' Q v r.1 ∧ PssV w' Q u r.2.1
set_option maxRecDepth 100000 in
theorem built_pass3 {T : List B8} (z s : Int) (hT : T.length = 32) : Tryd.prog.built 51 [(0, .int .i64 z), (1, .int .i64 s), (3, .agg (T.map byt).toArray)] = some (psl z s (.slice none 0 0) T).toArray := by
  unfold psl
  rw [p32_eq hT]
  obtain ⟨a0, a1, a2, a3, a4, a5, a6, a7, a8, a9, a10, a11, a12, a13, a14, a15, a16, a17, a18, a19, a20, a21, a22, a23, a24, a25, a26, a27, a28, a29, a30, a31, rfl⟩ := ex32 T hT
  simp only [List.map_cons, List.map_nil]
  kernel_rfl
set_option maxRecDepth 100000 in
theorem built_epoch {T : List B8} (z : Int) (hT : T.length = 32) : Tryd.prog.built 49 [(0, .int .i64 z), (1, .agg (T.map byt).toArray)] = some (epl z T).toArray := by
  unfold epl
  rw [p32_eq hT]
  obtain ⟨a0, a1, a2, a3, a4, a5, a6, a7, a8, a9, a10, a11, a12, a13, a14, a15, a16, a17, a18, a19, a20, a21, a22, a23, a24, a25, a26, a27, a28, a29, a30, a31, rfl⟩ := ex32 T hT
  simp only [List.map_cons, List.map_nil]
  kernel_rfl
section
variable {w : World} {g : Nat} {ops : Array Oper} {rest : List Oper} {o : Oper} {a : Act} {Q : Exit → Act → World → Prop}
theorem wpList_build_epoch (hgd : o.guard = none) (x y : Operand) (ho : o.op = .build 49 #[(0, x), (1, y)]) {z : Int} {T : List B8} (hT : T.length = 32) (hx : a.eval x = .int .i64 z) (hy : a.eval y = .agg (T.map byt).toArray)
    (h : wpList Tryd.prog ops Q rest (a.put o.dst (.agg (epl z T).toArray)) w) : wpList Tryd.prog ops Q (o :: rest) a w := by
  refine wpList_build_as hgd 49 _ ho _ ?_ h
  have e : (#[(0, x), (1, y)].map fun (i, x) => (i, a.eval x)).toList = [(0, .int .i64 z), (1, .agg (T.map byt).toArray)] := by simp [hx, hy]
  rw [e]
  exact built_epoch z hT
theorem wpList_store_pass (hgd : o.guard = none) (x y : Operand) (ho : o.op = .store 51 x y)
    (hx : a.eval x = .pointer (some ⟨g, 0, none⟩)) {cs cs' : Array Value} (hy : a.eval y = .agg cs') (hg : Whole w g 51 cs) (h8 : cs.size = 35) (h8' : cs'.size = 35) (hone : cs'.all (·.oneCell') = true)
    (h : wpList Tryd.prog ops Q rest (a.put o.dst undef) (w.setRow g cs')) : wpList Tryd.prog ops Q (o :: rest) a w :=
  wpList_store_row hgd 51 x y ho g _ hx hy 51 _ hg (by rw [passSize, h8']) (by rw [h8, h8']) hone h
theorem results_pass3 {fn : Func} {p q r : Tmp} (h : fn.results = #[.cell p 32, .cell q 51, .tmp r]) (tmps : Array Value) {g2 : Nat} {cs cs2 : Array Value} (hp : tmps.getD p undef = .pointer (some ⟨g, 0, none⟩)) (hq : tmps.getD q undef = .pointer (some ⟨g2, 0, none⟩)) (x : Value) (hr : tmps.getD r undef = x)
    (h8 : cs.size = 36) (h8' : cs2.size = 35) (hg : Whole w g 32 cs) (hg2 : Whole w g2 51 cs2) : (results fn tmps).run Tryd.prog w = .ok (.tuple #[.agg cs, .agg cs2, x]) w := by
  have hp' : tmps[p]?.getD undef = .pointer (some ⟨g, 0, none⟩) := by simpa using hp
  have hq' : tmps[q]?.getD undef = .pointer (some ⟨g2, 0, none⟩) := by simpa using hq
  have hr' : tmps[r]?.getD undef = x := by simpa using hr
  simp [results, h, hp', hq', hr', asAddr, run_loadVar_row w g 32 32 _ (0, 0) _ hg Tryd.underlying32 rfl (by rw [algSize, h8]), run_loadVar_row w g2 51 51 _ (0, 0) _ hg2 Tryd.underlying51 rfl (by rw [passSize, h8'])]
end
theorem yieldsIf_build_pass3 {ops : Array Oper} {S : World → Prop} {op : Oper} {a : Act} (hw : Region.wanted op (yielded ops a.tmps) = true) (x y z : Operand) (ho : op.op = .build 51 #[(0, x), (1, y), (3, z)])
    {n s : Int} {T : List B8} (hT : T.length = 32) (hx : a.eval x = .int .i64 n) (hy : a.eval y = .int .i64 s) (hz : a.eval z = .agg (T.map byt).toArray) : YieldsIf Tryd.prog ops S op (.agg (psl n s (.slice none 0 0) T).toArray) a := by
  refine yieldsIf_build_as hw 51 _ ho _ ?_
  have e1 : (#[(0, x), (1, y), (3, z)].map fun (i, x) => (i, a.eval x)).toList = [(0, .int .i64 n), (1, .int .i64 s), (3, .agg (T.map byt).toArray)] := by simp [hx, hy, hz]
  rw [e1, built_pass3 n s hT]
end Go.Proofs.YtiikhjifjdpgdaaDoor
namespace Go.Proofs.YtiikhjifjdpgdaaDoor
open Go Go.RowKit Sh Leaf

abbrev zcav : Value := .agg #[.bool false, .int .i64 0, .int .u64 0, .int .i64 0, .int .i64 0, .string { data := #[] }, .int .i64 0, .int .i64 0, .slice none 0 0, .slice none 0 0]
theorem cavInfo : (Tryd.prog.info? 59).map (fun i => (i.zero, i.size, i.bytes)) = some (some zcav, 10, 120) := by kernel_rfl
theorem zcav_size : zcav.cells.size = 10 := rfl
abbrev OwnCv (w : World) (base : Nat) (v : Value) (L : List CvM) : Prop := OwnS cvl 10 59 w base v L
set_option maxRecDepth 20000 in
set_option maxHeartbeats 1000000 in
theorem growc (n : Nat) (h0 : 0 < n) (hn : n ≤ 1000000) (w : World) :
    Calls Tryd.prog 113 #[.slice none 0 0, .int .i64 (n : Int)] w fun e w' => ∃ v', e = .returned v' ∧ OwnCv w' w.heap.size v' [] ∧ Below w.heap.size w w' := by
  obtain ⟨i0, hi, hz0, hz1, hz2⟩ := info_parts cavInfo
  have hr := fun ty => Lib.run_append_nil_zeros (P := Tryd.prog) w 44 3 ty 59 i0 zcav .i64 .i64 Tryd.underlying44 Tryd.underlying3 hi hz0 n h0 (by omega) (by omega) (by rw [hz2]; omega)
  have hge := grownCap_ge w n 0 59
  have hle := grownCap_le_maxLen w n 0 59 (by unfold maxLen; omega)
  generalize grownCap w n 0 59 = C at *
  have hzc : ∀ k, (Builtin.zeroCells zcav.cells k).size = k * 10 := fun k => by rw [size_zeroCells]; rfl
  have ho : OwnCv (w.drew.alloc (.cells (Builtin.zeroCells zcav.cells n ++ Builtin.zeroCells zcav.cells (C - n)) 59)) w.heap.size (.slice (some ⟨w.heap.size, 0, none⟩) 0 C) [] :=
    ⟨rfl, .inr ⟨_, C, _, rfl, Nat.le_refl _, heap_alloc_new _ _, by simp, hle, by rw [Array.size_append, hzc, hzc, ← Nat.add_mul]; congr 1; omega, by simp [fl]⟩⟩
  have hb : Below w.heap.size w (w.drew.alloc (.cells (Builtin.zeroCells zcav.cells n ++ Builtin.zeroCells zcav.cells (C - n)) 59)) := (Below.refl _ _).drew.alloc (by simp) _
  generalize (w.drew.alloc (.cells (Builtin.zeroCells zcav.cells n ++ Builtin.zeroCells zcav.cells (C - n)) 59)) = w1 at *
  have HR := Lib.hid hr
  clear hr hi hz0 hz1 hz2 hzc
  go_enter Tryd.func113, Tryd.ntmps113
  go_wp2_with (at_builtin; refine Lib.wpList_append_run _ rfl _ _ _ _ rfl _ _ rfl rfl _ _ (HR.out 44) ?_)
  go_ret
  exact ⟨_, rfl, ho, hb⟩
set_option maxRecDepth 20000 in
set_option maxHeartbeats 2000000 in
theorem concatc (g : Nat) (A1 A2 : Option Addr) (c1 c2 : Nat) (L1 L2 : List CvM) (Q1 Q2 : Nat → Prop) (w : World) (hc1 : w.cell? ⟨g, 0, none⟩ = some (.slice A1 L1.length c1)) (hc2 : w.cell? ⟨g, 1, none⟩ = some (.slice A2 L2.length c2))
    (h1 : Seq cvl cmok w Q1 A1 c1 L1) (h2 : Seq cvl cmok w Q2 A2 c2 L2) (h0 : 0 < L2.length) (hl : L1.length + L2.length ≤ 100000) :
    Calls Tryd.prog 87 #[.slice (some ⟨g, 0, none⟩) 2 2] w fun e w' => ∃ v', e = .returned v' ∧ OwnCv w' w.heap.size v' (L1 ++ L2) ∧ Below w.heap.size w w' := by
  have hg : g < w.heap.size := block_lt_of_cell hc1
  have hgr := growc (L1.length + L2.length) (by omega) (by omega) w
  rw [show ((L1.length + L2.length : Nat) : Int) = (L1.length : Int) + (L2.length : Int) by omega] at hgr
  have HG := Lib.hid hgr
  obtain ⟨n1, hn1⟩ : ∃ n, n = L1.length := ⟨_, rfl⟩
  obtain ⟨n2, hn2⟩ : ∃ n, n = L2.length := ⟨_, rfl⟩
  rw [← hn1] at hc1 hl HG
  rw [← hn2] at hc2 hl h0 HG
  have HN1 := Lib.hid hn1
  have HN2 := Lib.hid hn2
  have H1 := Lib.hid h1
  have H2 := Lib.hid h2
  clear hgr hn1 hn2 h1 h2
  go_enter Tryd.func87, Tryd.ntmps87
  go_wp2
  refine wp_loop_rounds 3 ?_
  iterate 3 (rw [rounds_succ]; go_wp2_with fail)
  refine HG.out.mono ?_
  rintro e w1 ⟨v', rfl, ho, hb⟩
  have hc1' : w1.cell? ⟨g, 0, none⟩ = some (.slice A1 n1 c1) := (hb.cell (p := ⟨g, 0, none⟩) hg).trans hc1
  have hc2' : w1.cell? ⟨g, 1, none⟩ = some (.slice A2 n2 c2) := (hb.cell (p := ⟨g, 1, none⟩) hg).trans hc2
  have HO := Lib.hid ho
  have H1' := Lib.hid (H1.out.below hb (Nat.le_refl _))
  have hbs := hb.size
  clear HG hc1 hc2 ho
  go_wp2
  refine wp_loop_rounds 3 ?_
  rw [rounds_succ]
  go_wp2_with (at_builtin; refine wpList_append_seq rfl _ _ 44 59 zcav 120 rfl Tryd.underlying44 cavInfo zcav_size (by omega) (by omega) cvl_len cvl_one w.heap.size v' [] rfl HO.out Q1 A1 n1 c1 L1 HN1.out.symm rfl H1'.out (by have := HN1.out; simp only [List.length_nil]; omega) hbs ?_; intro v3 w3 ho3 hb3 hg3)
  rw [List.nil_append] at ho3
  have hc2'' : w3.cell? ⟨g, 1, none⟩ = some (.slice A2 n2 c2) := (hb3.cell (p := ⟨g, 1, none⟩) hg).trans hc2'
  have H2'' := Lib.hid (H2.out.below (hb.trans hb3) (Nat.le_refl _))
  have HO3 := Lib.hid ho3
  have hbs3 : w.heap.size ≤ w3.heap.size := Nat.le_trans hbs hb3.size
  clear ho3 hg3 hc1' hc2'
  rw [rounds_succ]
  go_wp2_with (at_builtin; refine wpList_append_seq rfl _ _ 44 59 zcav 120 rfl Tryd.underlying44 cavInfo zcav_size (by omega) (by omega) cvl_len cvl_one w.heap.size v3 L1 rfl HO3.out Q2 A2 n2 c2 L2 HN2.out.symm rfl H2''.out (by have := HN1.out; have := HN2.out; omega) hbs3 ?_; intro v4 w4 ho4 hb4 hg4)
  have HO4 := Lib.hid ho4
  clear ho4 hg4
  rw [rounds_succ]
  go_wp2
  go_ret
  exact ⟨v4, rfl, HO4.out, hb.trans (hb3.trans hb4)⟩
end Go.Proofs.YtiikhjifjdpgdaaDoor
namespace Go.Proofs.YtiikhjifjdpgdaaDoor
open Go Go.RowKit Sh Leaf

theorem thirds_snoc {l : List Cav} {j : Nat} {c : Cav} (h : l[j]? = some c) : thirds (l.take (j + 1)) = thirds (l.take j) + (if c.third = true then 1 else 0) := by
  unfold thirds
  rw [List.take_add_one, h, List.filter_append, List.length_append]
  congr 1
  simp only [Option.toList_some, List.filter_cons, List.filter_nil]
  cases c.third <;> simp
theorem thirds_le (l : List Cav) : thirds l ≤ l.length := List.length_filter_le _ _
theorem wpList_load_cavr {ops : Array Oper} {rest : List Oper} {o : Oper} {a : Act} {w : World} {R : Exit → Act → World → Prop} {g off : Nat} {x : Cav} {A1 A2 : Option Addr} {c1 c2 : Nat} (hgd : o.guard = none) (y : Operand) (ho : o.op = .load 59 y) (hy : a.eval y = .pointer (some ⟨g, off, none⟩))
    (hr : w.rangeAt g off [.bool x.third, .int .i64 x.first.kind, .int .u64 (x.first.mask : Int), .int .i64 x.first.lo, .int .i64 x.first.hi, .string (sof x.first.name), .int .i64 x.first.num, .int .i64 x.party, .slice A1 x.ticket.length c1, .slice A2 x.box.length c2])
    (h : wpList Tryd.prog ops R rest (a.put o.dst (.agg (cvrow x.third x.first x.party (.slice A1 x.ticket.length c1) (.slice A2 x.box.length c2)))) w) : wpList Tryd.prog ops R (o :: rest) a w :=
  wpList_load_mid hgd 59 y ho g off hy _ _ hr Tryd.underlying59 rfl (by rw [cavSize]; rfl) h
set_option linter.unusedSimpArgs false in
set_option linter.unusedVariables false in
set_option maxRecDepth 100000 in
set_option maxHeartbeats 4000000 in
theorem croom {w : World} {Q : Nat → Prop} {A : Option Addr} {ca : Nat} {l : List Cav} {v : Value} {c : Cav} (hA : Cvs w A l) (hl : l.length ≤ 100000) (hv : CavV w Q v c) :
    Calls Tryd.prog 57 #[.slice A l.length ca, v] w fun e w' => e = .returned (.bool (decide (roomc l c))) ∧ Below w.heap.size w w' := by
  obtain ⟨A1, c1, A2, c2, rfl, -, -, -⟩ := hv
  obtain ⟨R, hR⟩ : ∃ R, R = decide (roomc l c) := ⟨_, rfl⟩
  rw [← hR]
  have HR := Lib.hid hR
  obtain ⟨n, hn⟩ : ∃ n, n = l.length := ⟨_, rfl⟩
  rw [← hn] at hl ⊢
  have HN := Lib.hid hn
  obtain ⟨p, hp⟩ : ∃ p, p = w.alloc (.cells (cvrow c.third c.first c.party (.slice A1 c.ticket.length c1) (.slice A2 c.box.length c2)) 59) := ⟨_, rfl⟩
  have hr : CvRow p w.heap.size c.third c.first c.party (.slice A1 c.ticket.length c1) (.slice A2 c.box.length c2) := by rw [hp]; exact Whole.here _ _ _
  have hb : Below w.heap.size w p := by rw [hp]; exact (Below.refl _ _).alloc (Nat.le_refl _) _
  have hps : w.heap.size < p.heap.size := hr.lt
  obtain ⟨th, hth⟩ : ∃ t, t = c.third := ⟨_, rfl⟩
  have hc0 : p.cell? ⟨w.heap.size, 0, none⟩ = some (.bool th) := by rw [hth]; exact (CvRow.cells hr).1
  have HC0 := Lib.hid hc0
  have HTH := Lib.hid hth
  have HA := Lib.hid (hA.below hb)
  have HB := Lib.hid hb
  clear hR hA hn hr hb hc0 hth
  go_enter Tryd.func57, Tryd.ntmps57
  go_upto_region 1 with fail
  rw [← hp]
  clear hp
  go_wp2_with fail
  go_loopw [5, 10] (fun v5 v wr => ∃ (j k : Nat), v5 = .int .i64 k ∧ v = .int .i64 j ∧ j ≤ n ∧ k = thirds (l.take j) ∧ Below p.heap.size p wr) (fun _ v _ => n - (intOf v).toNat)
  case atStart => exact ⟨0, 0, rfl, rfl, by omega, rfl, Below.refl _ _⟩
  case round =>
    obtain ⟨j, k, rfl, rfl, hj, hkt, hbw⟩ := hrel
    have hswr : p.heap.size ≤ wr.heap.size := hbw.size
    have HK := Lib.hid hkt
    have HBW := Lib.hid hbw
    clear hkt hbw
    by_cases hlt : j < n
    case neg =>
      obtain rfl : j = n := by omega
      have hc0 : wr.cell? ⟨w.heap.size, 0, none⟩ = some (.bool th) := (HBW.out.cell (p := ⟨w.heap.size, 0, none⟩) hps).trans HC0.out
      have hkl : k = thirds l := by have := HK.out; rwa [List.take_of_length_le (by rw [← HN.out]; omega)] at this
      have hR : R = decide (j < 64 ∧ (th = true → k < 8)) := by rw [HR.out, hkl, HTH.out, HN.out]; rfl
      have HFIN := Lib.hid (HB.out.trans (HBW.out.mono (by omega)))
      clear hlt hj hkl HK HR HN HA
      cases th
      · by_cases h64 : j < 64
        · obtain rfl : R = true := by rw [hR]; exact decide_eq_true ⟨h64, fun h => by cases h⟩
          have h64i : (j : Int) < 64 := by omega
          clear hR h64
          go_wp2_with fail
          go_ret
          exact ⟨rfl, HFIN.out⟩
        · obtain rfl : R = false := by rw [hR]; exact decide_eq_false fun h => h64 h.1
          have h64i : ¬ (j : Int) < 64 := by omega
          clear hR h64
          go_wp2_with fail
          go_ret
          exact ⟨rfl, HFIN.out⟩
      · by_cases h64 : j < 64
        · by_cases h8 : k < 8
          · obtain rfl : R = true := by rw [hR]; exact decide_eq_true ⟨h64, fun _ => h8⟩
            have h64i : (j : Int) < 64 := by omega
            have h8i : (k : Int) < 8 := by omega
            clear hR h64 h8
            go_wp2_with fail
            go_ret
            exact ⟨rfl, HFIN.out⟩
          · obtain rfl : R = false := by rw [hR]; exact decide_eq_false fun h => h8 (h.2 rfl)
            have h64i : (j : Int) < 64 := by omega
            have h8i : ¬ (k : Int) < 8 := by omega
            clear hR h64 h8
            go_wp2_with fail
            go_ret
            exact ⟨rfl, HFIN.out⟩
        · obtain rfl : R = false := by rw [hR]; exact decide_eq_false fun h => h64 h.1
          have h64i : ¬ (j : Int) < 64 := by omega
          clear hR h64
          go_wp2_with fail
          go_ret
          exact ⟨rfl, HFIN.out⟩
    obtain ⟨x, hx⟩ : ∃ x, l[j]? = some x := ⟨_, List.getElem?_eq_getElem (by have := HN.out; omega)⟩
    have hA2 := HA.out.below HBW.out
    obtain ⟨g, o, X1, x1, X2, x2, hAe, hgl, hra, hat, hab, hwfa⟩ := hA2 j x hx
    have HRA := Lib.hid hra
    have j0 : (0 : Int) ≤ (j : Int) := by omega
    have jn : (j : Int) < (n : Int) := by omega
    have hth := thirds_snoc hx
    have hkn : k ≤ n := by have h1 := thirds_le (l.take j); rw [← HK.out, List.length_take] at h1; omega
    obtain ⟨q, hq⟩ : ∃ p, p = wr.alloc (.cells (cvrow x.third x.first x.party (.slice X1 x.ticket.length x1) (.slice X2 x.box.length x2)) 59) := ⟨_, rfl⟩
    have hrow : CvRow q wr.heap.size x.third x.first x.party (.slice X1 x.ticket.length x1) (.slice X2 x.box.length x2) := by rw [hq]; exact Whole.here _ _ _
    have hbq : Below wr.heap.size wr q := by rw [hq]; exact (Below.refl _ _).alloc (Nat.le_refl _) _
    obtain ⟨xt, hxt⟩ : ∃ t, t = x.third := ⟨_, rfl⟩
    rw [← hxt, ← HK.out] at hth
    have hcx : q.cell? ⟨wr.heap.size, 0, none⟩ = some (.bool xt) := by rw [hxt]; exact (CvRow.cells hrow).1
    have HQ := Lib.hid (HBW.out.trans (hbq.mono hswr))
    have HTS := Lib.hid hth
    have HQE := Lib.hid hq
    subst hAe
    clear hx hA2 hra hat hab hwfa hrow hbq hxt hth hq
    go_upto_region 5 with (with_reducible refine wpList_load_cavr rfl _ rfl rfl HRA.out ?_)
    rw [← HQE.out]
    clear HQE
    cases xt
    · have HX : Hid (k = thirds (l.take (j + 1))) := Lib.hid (by have := HTS.out; simpa using this.symm)
      go_wp2_with fail
      go_roundw
      case rel => exact ⟨j + 1, k, rfl, by go_num, by omega, HX.out, HQ.out⟩
      case measure => simp [intOf]; omega
    · have HX : Hid (k + 1 = thirds (l.take (j + 1))) := Lib.hid (by have := HTS.out; simpa using this.symm)
      go_wp2_with fail
      go_roundw
      case rel => exact ⟨j + 1, k + 1, by go_num, by go_num, by omega, HX.out, HQ.out⟩
      case measure => simp [intOf]; omega
end Go.Proofs.YtiikhjifjdpgdaaDoor
namespace Go.Proofs.YtiikhjifjdpgdaaDoor
open Go Go.RowKit Sh Leaf

set_option maxRecDepth 100000 in
theorem bs_cav (x : CvM) : Tryd.prog.builtSlice 59 1 [(0, .agg (cvl x).toArray)] = some (cvl x).toArray := by
  unfold cvl
  kernel_rfl
theorem wpList_buildSlice_cav {w : World} {ops : Array Oper} {rest : List Oper} {o : Oper} {a : Act} {Q : Exit → Act → World → Prop} (hg : o.guard = none) (x : Operand) (ho : o.op = .buildSlice 44 1 #[(0, x)])
    (N : Nat) (hN : w.heap.size = N) (dst : Option Tmp) (hdst : o.dst = dst) {X : CvM} (hx : a.eval x = .agg (cvl X).toArray)
    (h : wpList Tryd.prog ops Q rest (a.put dst (.slice (some ⟨N, 0, none⟩) 1 1)) (w.alloc (.cells (cvl X).toArray 59))) : wpList Tryd.prog ops Q (o :: rest) a w := by
  refine Great.wpList_buildSliceTo hg 44 59 1 _ ho N hN dst hdst Tryd.underlying44 _ ?_ h
  have e1 : (#[(0, x)].map fun (i, x) => (i, a.eval x)).toList = [(0, .agg (cvl X).toArray)] := by simp [hx]
  rw [e1]
  exact bs_cav X
theorem wpList_load_cvl {w : World} {g : Nat} {ops : Array Oper} {rest : List Oper} {o : Oper} {a : Act} {Q : Exit → Act → World → Prop} (hgd : o.guard = none) (x : Operand) (ho : o.op = .load 59 x)
    (hx : a.eval x = .pointer (some ⟨g, 0, none⟩)) {X : CvM} (hg : Whole w g 59 (cvl X).toArray) (h : wpList Tryd.prog ops Q rest (a.put o.dst (.agg (cvl X).toArray)) w) : wpList Tryd.prog ops Q (o :: rest) a w :=
  wpList_load_row hgd 59 x ho g hx 59 _ (0, 0) _ hg Tryd.underlying59 rfl (by rw [cavSize]; rfl) h
theorem own_cell_at {w : World} {base gl n1 cap : Nat} {L : List CvM} (h : OwnS cvl 10 59 w base (.slice (some ⟨gl, 0, none⟩) n1 cap) L) (k : Nat) (p : CvM) (hp : L[k]? = some p) :
    (∀ i u, (cvl p)[i]? = some u → w.cell? ⟨gl, k * 10 + i, none⟩ = some u ∧ w.frozen? ⟨gl, k * 10 + i, none⟩ = false) ∧ ∀ i u q, i < 10 → cvl q = (cvl p).set i u → OwnS cvl 10 59 (w.setCell ⟨gl, k * 10 + i, none⟩ u) base (.slice (some ⟨gl, 0, none⟩) n1 cap) (L.set k q) := by
  obtain ⟨gg, cc, hve, -, -, -, -, hcell, hset⟩ := OwnS.cell cvl_len h k p hp
  injection hve with hv1 hv2 hv3
  injection hv1 with hv1
  injection hv1 with hv1
  subst hv1
  exact ⟨hcell, hset⟩
theorem set_same {α : Type} : ∀ (l : List α) (i : Nat) (a : α), l[i]? = some a → l.set i a = l
  | [], _, _, h => by simp at h
  | x :: t, 0, a, h => by simp at h; rw [h]; rfl
  | x :: t, i + 1, a, h => by rw [List.set_cons_succ, set_same t i a (by simpa using h)]
def ExR (w : World) (gl : Nat) (L' : List CvM) (j : Nat) (W : World) : Prop := ∀ (i : Nat) (x : CvM), L'[i]? = some x → Bytes W (fun g => (i < j → w.heap.size ≤ g) ∧ g ≠ gl) (.slice x.A1 x.e.ticket.length x.c1) x.e.ticket ∧ Bytes W (fun g => (i < j → w.heap.size ≤ g) ∧ g ≠ gl) (.slice x.A2 x.e.box.length x.c2) x.e.box ∧ Cwf x.e
theorem ExR.below {w W W' : World} {gl j : Nat} {L' : List CvM} (h : ExR w gl L' j W) (hb : Below W.heap.size W W') : ExR w gl L' j W' := fun i x hx => ⟨(h i x hx).1.below hb (Nat.le_refl _), (h i x hx).2.1.below hb (Nat.le_refl _), (h i x hx).2.2⟩
set_option linter.unusedSimpArgs false in
set_option linter.unusedVariables false in
set_option maxRecDepth 100000 in
set_option maxHeartbeats 8000000 in
theorem cext {w : World} {Q Q2 : Nat → Prop} {A : Option Addr} {ca : Nat} {l : List Cav} {v : Value} {c : Cav} (hA : Cavs w Q A ca l) (hl : l.length ≤ 1000) (hv : CavV w Q2 v c) :
    Calls Tryd.prog 58 #[.slice A l.length ca, v] w fun e w' => (∃ A' c', e = .returned (.slice A' (l ++ [c]).length c') ∧ Cavs w' (fun g => w.heap.size ≤ g) A' c' (l ++ [c])) ∧ Below w.heap.size w w' := by
  obtain ⟨A1, c1, A2, c2, rfl, hB1, hB2, hwf⟩ := hv
  obtain ⟨L, hLl, hS, hBL⟩ := hA
  obtain ⟨cm, hcm⟩ : ∃ x : CvM, x = ⟨c, A1, c1, A2, c2⟩ := ⟨_, rfl⟩
  have hcr : (Value.agg (cvrow c.third c.first c.party (.slice A1 c.ticket.length c1) (.slice A2 c.box.length c2))) = .agg (cvl cm).toArray := by rw [hcm]; rfl
  rw [hcr]
  obtain ⟨n, hn⟩ : ∃ n, n = l.length := ⟨_, rfl⟩
  have hLn : L.length = n := by rw [hn, ← hLl, List.length_map]
  rw [show (l ++ [c]).length = n + 1 by rw [List.length_append, ← hn]; rfl, ← hn]
  obtain ⟨p, hp⟩ : ∃ p, p = w.alloc (.cells (cvl cm).toArray 59) := ⟨_, rfl⟩
  have hr : Whole p w.heap.size 59 (cvl cm).toArray := by rw [hp]; exact Whole.here _ _ _
  have hb : Below w.heap.size w p := by rw [hp]; exact (Below.refl _ _).alloc (Nat.le_refl _) _
  have hps : w.heap.size < p.heap.size := hr.lt
  obtain ⟨q1, hq1⟩ : ∃ q, q = p.alloc (.cells (cvl cm).toArray 59) := ⟨_, rfl⟩
  have hs1 : q1.heap.size = p.heap.size + 1 := by rw [hq1]; simp
  have hSq : Seq cvl cmok q1 (fun b => b = p.heap.size) (some ⟨p.heap.size, 0, none⟩) 1 [cm] := by rw [hq1]; exact seq_one (heap_alloc_new p _) rfl (by rw [hcm]; exact hwf)
  have hb1 : Below p.heap.size p q1 := by rw [hq1]; exact (Below.refl _ _).alloc (Nat.le_refl _) _
  obtain ⟨q2, hq2⟩ : ∃ q, q = q1.alloc (.cells #[.slice A n ca, .slice (some ⟨p.heap.size, 0, none⟩) 1 1] 44) := ⟨_, rfl⟩
  have hl2 : Whole q2 q1.heap.size 44 #[.slice A n ca, .slice (some ⟨p.heap.size, 0, none⟩) 1 1] := by rw [hq2]; exact Whole.here _ _ _
  have hb2 : Below q1.heap.size q1 q2 := by rw [hq2]; exact (Below.refl _ _).alloc (Nat.le_refl _) _
  have hs2 : q1.heap.size < q2.heap.size := hl2.lt
  have hb02 := hb.trans ((hb1.trans (hb2.mono (by omega))).mono (Nat.le_of_lt hps))
  have hcl := concatc q1.heap.size A (some ⟨p.heap.size, 0, none⟩) ca 1 L [cm] Q (fun b => b = p.heap.size) q2 (by rw [hLn]; exact hl2.cell 0) (hl2.cell 1) (hS.below hb02 (Nat.le_refl _)) (hSq.below hb2 (Nat.le_refl _)) (by simp) (by simp; omega)
  rw [hs1] at hcl
  have HBL : Hid (∀ (i : Nat) (x : CvM), (L ++ [cm])[i]? = some x → Bytes q2 (fun g => g < w.heap.size) (.slice x.A1 x.e.ticket.length x.c1) x.e.ticket ∧ Bytes q2 (fun g => g < w.heap.size) (.slice x.A2 x.e.box.length x.c2) x.e.box ∧ Cwf x.e) := Lib.hid fun i x hx => by
    rcases List.mem_append.1 (List.mem_of_getElem? hx) with h | h
    · exact ⟨((hBL x h).1.mono fun g hg _ => hg).below hb02 (Nat.le_refl _), ((hBL x h).2.mono fun g hg _ => hg).below hb02 (Nat.le_refl _), hS.2.2.2.1 x h⟩
    · rw [List.mem_singleton.1 h, hcm]
      exact ⟨(hB1.mono fun g hg _ => hg).below hb02 (Nat.le_refl _), (hB2.mono fun g hg _ => hg).below hb02 (Nat.le_refl _), hwf⟩
  have HLL : Hid ((L ++ [cm]).map (·.e) = l ++ [c] ∧ (L ++ [cm]).length = n + 1) := Lib.hid ⟨by rw [List.map_append, hLl, hcm]; rfl, by rw [List.length_append, hLn]; rfl⟩
  have HB := Lib.hid hb02
  have HR := Lib.hid hr
  have HQ1 := Lib.hid hq1
  have HQ2 := Lib.hid hq2
  have hwq : w.heap.size < q2.heap.size := by omega
  have hn1 : n ≤ 1000 := by omega
  obtain ⟨LL, hLL⟩ : ∃ x, x = L ++ [cm] := ⟨_, rfl⟩
  rw [← hLL] at hcl HBL HLL
  clear hcr hLl hS hBL hcm hLn hn hl hB1 hB2 hwf hr hb hq1 hSq hb1 hq2 hl2 hb2 hb02 hs1 hLL
  go_enter Tryd.func58, Tryd.ntmps58
  go_upto_region 1 with fail
  rw [← hp]
  clear hp
  go_wp2_with (first
    | (with_reducible refine wpList_load_cvl rfl _ rfl rfl HR.out ?_)
    | (with_reducible refine wpList_buildSlice_cav rfl _ rfl p.heap.size rfl _ rfl rfl ?_))
  rw [← HQ1.out, ← HQ2.out]
  refine hcl.mono ?_
  rintro e w1 ⟨v, rfl, ho, hb1⟩
  clear hcl HQ1 HQ2 HR
  obtain ⟨x0, hx0⟩ : ∃ x, LL[0]? = some x := ⟨_, List.getElem?_eq_getElem (by have := HLL.out.2; omega)⟩
  obtain ⟨gl, cap, rfl, hgl, hgs, hcap, hcm, -, -⟩ := OwnS.cell cvl_len ho 0 x0 hx0
  have hl1 := HLL.out.2
  change w1.ownsRow q2.heap.size 59 10 _ LL.length (fl cvl LL) at ho
  rw [hl1] at ho hcap ⊢
  have hs3 : q2.heap.size ≤ w1.heap.size := hb1.size
  have HB1 := Lib.hid (HB.out.trans (hb1.mono (by omega)))
  have HE1 : Hid (ExR w gl LL 0 w1) := Lib.hid fun i x hx => ⟨((HBL.out i x hx).1.below hb1 (Nat.le_refl _)).mono fun g _ hg => ⟨fun h => by omega, by have : g < w.heap.size := hg; omega⟩, ((HBL.out i x hx).2.1.below hb1 (Nat.le_refl _)).mono fun g _ hg => ⟨fun h => by omega, by have : g < w.heap.size := hg; omega⟩, (HBL.out i x hx).2.2⟩
  have HO := Lib.hid ho
  have HCM := Lib.hid hcm
  clear ho hb1 HBL HB hx0 hl1 hcm
  go_wp2_with fail
  go_loopw [15] (fun v wr => ∃ (j : Nat) (L' : List CvM), v = .int .i64 j ∧ j ≤ n + 1 ∧ L'.map (·.e) = l ++ [c] ∧ L'.length = n + 1 ∧ wr.ownsRow q2.heap.size 59 10 (.slice (some ⟨gl, 0, none⟩) (n + 1) cap) (n + 1) (fl cvl L') ∧ ExR w gl L' j wr ∧ gl < wr.heap.size ∧ Below w.heap.size w wr) (fun v _ => n + 1 - (intOf v).toNat)
  case atStart => exact ⟨0, LL, rfl, by omega, HLL.out.1, HLL.out.2, HO.out, HE1.out, hgs, HB1.out⟩
  case round =>
    obtain ⟨j, L', rfl, hj, hLe, hLl, ho, hE, hgw, hbw⟩ := hrel
    have HLE := Lib.hid (And.intro hLe hLl)
    have HOJ := Lib.hid ho
    have HE := Lib.hid hE
    have HBW := Lib.hid hbw
    have hsw : w.heap.size ≤ wr.heap.size := hbw.size
    clear hLe hLl ho hE hbw HO HE1 HB1 HLL HCM
    by_cases hlt : j < n + 1
    case neg =>
      obtain rfl : j = n + 1 := by omega
      have ho := HOJ.out
      rw [← HLE.out.2] at ho
      obtain ⟨A', c', hve, hS⟩ := OwnS.seq (f := cvl) (ok := cmok) (l := L') ho (fun x hx => by
        obtain ⟨i, hi⟩ := List.getElem?_of_mem hx
        exact (HE.out i x hi).2.2)
      injection hve with hv1 hv2 hv3
      subst hv1 hv3
      have HFIN : Hid (Cavs wr (fun g => w.heap.size ≤ g) (some ⟨gl, 0, none⟩) cap (l ++ [c])) := Lib.hid ⟨L', HLE.out.1, hS.mono fun g _ hg => by omega, fun x hx => by
        obtain ⟨i, hi⟩ := List.getElem?_of_mem hx
        have hil := (List.getElem?_eq_some_iff.1 hi).1
        have hlen := HLE.out.2
        exact ⟨(HE.out i x hi).1.mono fun g _ hg => hg.1 (by omega), (HE.out i x hi).2.1.mono fun g _ hg => hg.1 (by omega)⟩⟩
      clear hlt hj ho hS hv2
      go_wp2_with fail
      go_ret
      exact ⟨⟨_, _, rfl, HFIN.out⟩, HBW.out⟩
    obtain ⟨x, hx⟩ : ∃ x, L'[j]? = some x := ⟨_, List.getElem?_eq_getElem (by have := HLE.out.2; omega)⟩
    have ho := HOJ.out
    rw [← HLE.out.2] at ho
    obtain ⟨gl', cap', hve, -, -, -, -, hcell, hset⟩ := OwnS.cell (f := cvl) cvl_len ho j x hx
    injection hve with hv1 hv2 hv3
    injection hv1 with hv1
    injection hv1 with hv1
    subst hv1 hv3
    clear hv2
    have HRA : Hid (wr.rangeAt gl (j * 10) [.bool x.e.third, .int .i64 x.e.first.kind, .int .u64 (x.e.first.mask : Int), .int .i64 x.e.first.lo, .int .i64 x.e.first.hi, .string (sof x.e.first.name), .int .i64 x.e.first.num, .int .i64 x.e.party, .slice x.A1 x.e.ticket.length x.c1, .slice x.A2 x.e.box.length x.c2]) := Lib.hid fun i u hu => (hcell i u hu).1
    have HX := Lib.hid hx
    obtain ⟨q, hq⟩ : ∃ q, q = wr.alloc (.cells (cvrow x.e.third x.e.first x.e.party (.slice x.A1 x.e.ticket.length x.c1) (.slice x.A2 x.e.box.length x.c2)) 59) := ⟨_, rfl⟩
    have hrow : CvRow q wr.heap.size x.e.third x.e.first x.e.party (.slice x.A1 x.e.ticket.length x.c1) (.slice x.A2 x.e.box.length x.c2) := by rw [hq]; exact Whole.here _ _ _
    have hbq : Below wr.heap.size wr q := by rw [hq]; exact (Below.refl _ _).alloc (Nat.le_refl _) _
    have hsq : wr.heap.size < q.heap.size := hrow.lt
    have HOQ := Lib.hid (own_below HOJ.out hbq (Nat.le_refl _))
    have HEQ := Lib.hid (HE.out.below hbq)
    have HBQ := Lib.hid (HBW.out.trans (hbq.mono hsw))
    have HROW := Lib.hid hrow
    have HQE := Lib.hid hq
    have j0 : (0 : Int) ≤ (j : Int) := by omega
    have jn : (j : Int) < ((n + 1 : Nat) : Int) := by omega
    have jn2 : (j : Int) < (n : Int) + 1 := by omega
    clear hx ho hcell hset hq hrow hbq HOJ HE HBW
    go_upto_region 5 with (with_reducible refine wpList_load_cavr rfl _ rfl rfl HRA.out ?_)
    rw [← HQE.out]
    clear HQE
    obtain ⟨nt, hnt⟩ : ∃ k, k = x.e.ticket.length := ⟨_, rfl⟩
    obtain ⟨nb, hnb⟩ : ∃ k, k = x.e.box.length := ⟨_, rfl⟩
    have hx8 : ∀ W, Below q.heap.size q W → W.cell? ⟨wr.heap.size, 8, none⟩ = some (.slice x.A1 nt x.c1) ∧ W.cell? ⟨wr.heap.size, 9, none⟩ = some (.slice x.A2 nb x.c2) := fun W hW => by
      have h := Whole.below HROW.out hW HROW.out.lt
      rw [hnt, hnb]
      exact ⟨h.cell 8, h.cell 9⟩
    have HX8 := Lib.hid hx8
    have hwf := (HEQ.out j x HX.out).2.2
    have HC1 : Hid (∀ W, Below q.heap.size q W → Calls Tryd.prog 40 #[.slice x.A1 nt x.c1] W fun e w' => ∃ v', e = .returned v' ∧ Bytes w' (fun g => W.heap.size ≤ g) v' x.e.ticket ∧ Below W.heap.size W w') := Lib.hid fun W hW => by rw [hnt]; exact clone _ _ _ W ((HEQ.out j x HX.out).1.below hW (Nat.le_refl _)) (by have := hwf.2.2.1; omega)
    have HC2 : Hid (∀ W, Below q.heap.size q W → Calls Tryd.prog 40 #[.slice x.A2 nb x.c2] W fun e w' => ∃ v', e = .returned v' ∧ Bytes w' (fun g => W.heap.size ≤ g) v' x.e.box ∧ Below W.heap.size W w') := Lib.hid fun W hW => by rw [hnb]; exact clone _ _ _ W ((HEQ.out j x HX.out).2.1.below hW (Nat.le_refl _)) (by have := hwf.2.2.2; omega)
    have HNT := Lib.hid (And.intro hnt hnb)
    have HWF := Lib.hid hwf
    have hb0 : Below q.heap.size q q.drew := Below.drew (Below.refl _ _)
    have hsd : q.heap.size ≤ q.drew.heap.size := hb0.size
    have jn3 : (j : Int) < (n : Int) + 1 := by omega
    clear hx8 hwf hnt hnb HRA
    refine wp_region_held_drew (S := fun W : World => W.cell? ⟨wr.heap.size, 8, none⟩ = some (.slice x.A1 nt x.c1) ∧ W.cell? ⟨wr.heap.size, 9, none⟩ = some (.slice x.A2 nb x.c2)) (by kernel_rfl) (HX8.out _ hb0) (fun hHeld => ?_)
    apply wpT (i := 0) rfl (by kernel_rfl)
    case hQ => exact fun _ _ _ h => h
    case hS => exact hHeld
    case hy => (refine Or.inl ⟨by rfl, ?_⟩; intro w hSw; (try go_split_ands); go_simp; (try with_reducible rfl))
    (try simp only [sq])
    apply wpT (i := 1) rfl (by kernel_rfl)
    case hQ => exact fun _ _ _ h => h
    case hS => exact hHeld
    case hy => (refine Or.inl ⟨by rfl, ?_⟩; intro w hSw; (try go_split_ands); go_simp; (try with_reducible rfl))
    (try simp only [sq])
    apply wpT (i := 2) rfl (by kernel_rfl)
    case hQ => exact fun _ _ _ h => h
    case hS => exact hHeld
    case hy => (refine Or.inl ⟨by rfl, ?_⟩; intro w hSw; (try go_split_ands); go_simp; (try with_reducible rfl))
    (try simp only [sq])
    apply wpT (i := 3) rfl (by kernel_rfl)
    case hQ => exact fun _ _ _ h => h
    case hS => exact hHeld
    case hy => (refine Or.inl ⟨by rfl, ?_⟩; intro w hSw; (try go_split_ands); go_simp; (try with_reducible rfl))
    (try simp only [sq])
    apply wpT (i := 4) rfl (by kernel_rfl)
    case hQ => exact fun _ _ _ h => h
    case hS => exact hHeld
    case hy => (refine Or.inl ⟨by rfl, ?_⟩; intro w hSw; (try go_split_ands); go_simp; (try with_reducible rfl))
    (try simp only [sq])
    apply wpT (i := 5) rfl (by kernel_rfl)
    case hQ => exact fun _ _ _ h => h
    case hS => exact hHeld
    case hy => (refine Or.inl ⟨by rfl, ?_⟩; intro w hSw; (try go_split_ands); go_simp; (try with_reducible rfl))
    (try simp only [sq])
    apply wpT (i := 7) rfl (by kernel_rfl)
    case hQ => exact fun _ _ _ h => h
    case hS => exact hHeld
    case hy => (refine Or.inl ⟨by rfl, ?_⟩; intro w hSw; (try go_split_ands); go_simp; (try with_reducible rfl))
    (try simp only [sq])
    apply wpT (i := 8) rfl (by kernel_rfl)
    case hQ => exact fun _ _ _ h => h
    case hS => exact hHeld
    case hy => (refine Or.inl ⟨by rfl, ?_⟩; intro w hSw; (try go_split_ands); go_simp; (try with_reducible rfl))
    (try simp only [sq])
    refine wpAnyH_ready (rs := [6]) (by kernel_rfl) (by simp) ?_
    refine AllReadyH.cons rfl (fun KK hKK => ?_) AllReadyH.nil
    (try simp only [sq])
    go_simp
    go_at_call 40
    refine (HC1.out _ hb0).mono ?_
    rintro e V1 ⟨v, rfl, h1, hv⟩
    obtain ⟨F1, f1, rfl, -⟩ := id h1
    have hsV1 : q.drew.heap.size ≤ V1.heap.size := hv.size
    have hb1 := Below.trans hb0 (Below.mono hv (Below.size hb0))
    have H1 := Lib.hid (h1.mono (Q' := fun g => q.heap.size ≤ g ∧ g < V1.heap.size) fun g hg hq => ⟨hq, hg⟩)
    clear hv h1
    refine hKK.out _ _ (HX8.out _ hb1) (fun hHeld => ?_)
    clear hKK KK
    (try simp only [sq])
    refine wpAnyH_ready (rs := [9]) (by kernel_rfl) (by simp) ?_
    refine AllReadyH.cons rfl (fun KK hKK => ?_) AllReadyH.nil
    (try simp only [sq])
    go_simp
    go_at_call 40
    refine (HC2.out _ hb1).mono ?_
    rintro e V2 ⟨v, rfl, h2, hv⟩
    obtain ⟨F2, f2, rfl, -⟩ := id h2
    have hsV2 : V1.heap.size ≤ V2.heap.size := hv.size
    have hb2 := Below.trans hb1 (Below.mono hv (Below.size hb1))
    have H1b := Lib.hid (H1.out.below hv (Nat.le_refl _))
    have H2 := Lib.hid h2
    clear hv h2 H1
    have HO2 : Hid (OwnS cvl 10 59 V2 q2.heap.size (.slice (some ⟨gl, 0, none⟩) (n + 1) cap) L') := Lib.hid (by have h := own_below HOQ.out hb2 (Nat.le_refl _); rw [← HLE.out.2] at h; rw [← HLE.out.2]; exact h)
    have HE2 := Lib.hid (HEQ.out.below hb2)
    refine hKK.out _ _ (HX8.out _ hb2) (fun hHeld => ?_)
    clear hKK KK
    (try simp only [sq])
    apply wpT (i := 10) rfl (by kernel_rfl)
    case hQ => exact fun _ _ _ h => h
    case hS => exact hHeld
    case hy => (refine Or.inl ⟨by rfl, ?_⟩; intro w hSw; (try go_split_ands); go_simp; (try with_reducible rfl))
    (try simp only [sq])
    apply wpT (i := 11) rfl (by kernel_rfl)
    case hQ => exact fun _ _ _ h => h
    case hS => exact hHeld
    case hy => (refine Or.inl ⟨by rfl, ?_⟩; intro w hSw; (try go_split_ands); go_simp; (try with_reducible rfl))
    (try simp only [sq])
    refine wpAnyH_ready (rs := [12]) (by kernel_rfl) (by simp) ?_
    refine AllReadyH.cons rfl (fun KK hKK => ?_) AllReadyH.nil
    (try simp only [sq])
    obtain ⟨hcell, hset⟩ := own_cell_at HO2.out j x (HX.out)
    obtain ⟨l8, f8⟩ := hcell 8 _ rfl
    have HNEW := Lib.hid (hset 8 (.slice F1 x.e.ticket.length f1) ⟨x.e, F1, f1, x.A2, x.c2⟩ (by omega) rfl)
    clear hcell hset
    go_simp
    obtain ⟨V3, hV3⟩ : ∃ q, q = V2.setCell ⟨gl, j * 10 + 8, none⟩ (.slice F1 x.e.ticket.length f1) := ⟨_, rfl⟩
    change KK _ (V2.setCell ⟨gl, j * 10 + 8, none⟩ (.slice F1 x.e.ticket.length f1))
    have HO3 : Hid (OwnS cvl 10 59 V3 q2.heap.size (.slice (some ⟨gl, 0, none⟩) (n + 1) cap) (L'.set j ⟨x.e, F1, f1, x.A2, x.c2⟩)) := Lib.hid (by rw [hV3]; exact HNEW.out)
    have HK3 : Hid (V3.heap.size = V2.heap.size) := Lib.hid (by rw [hV3]; simp)
    have HG3 : Hid (∀ g, g ≠ gl → V3.heap[g]? = V2.heap[g]?) := Lib.hid fun g hg => by rw [hV3]; exact heap_setCell_other _ _ _ _ hg
    have HB3 : Hid (Below w.heap.size w V3) := Lib.hid (by rw [hV3]; exact Below.setCell (p := ⟨gl, j * 10 + 8, none⟩) (HBQ.out.trans (hb2.mono (by omega))) (by show w.heap.size ≤ gl; omega) _)
    have HR3 : Hid (CvRow V3 wr.heap.size x.e.third x.e.first x.e.party (.slice x.A1 x.e.ticket.length x.c1) (.slice x.A2 x.e.box.length x.c2)) := Lib.hid (by rw [hV3]; exact Whole.far (Whole.below HROW.out hb2 HROW.out.lt) (a := ⟨gl, j * 10 + 8, none⟩) (by show wr.heap.size ≠ gl; omega) _)
    have HC8 : Hid (V3.cell? ⟨wr.heap.size, 8, none⟩ = some (.slice x.A1 nt x.c1) ∧ V3.cell? ⟨wr.heap.size, 9, none⟩ = some (.slice x.A2 nb x.c2)) := Lib.hid (by rw [HNT.out.1, HNT.out.2]; exact ⟨HR3.out.cell 8, HR3.out.cell 9⟩)
    rw [← hV3]
    clear hV3 l8 f8 HNEW
    refine hKK.out _ _ (HC8.out) (fun hHeld => ?_)
    clear hKK KK
    (try simp only [sq])
    apply wpT (i := 13) rfl (by kernel_rfl)
    case hQ => exact fun _ _ _ h => h
    case hS => exact hHeld
    case hy => (refine Or.inl ⟨by rfl, ?_⟩; intro w hSw; (try go_split_ands); go_simp; (try with_reducible rfl))
    (try simp only [sq])
    apply wpT (i := 14) rfl (by kernel_rfl)
    case hQ => exact fun _ _ _ h => h
    case hS => exact hHeld
    case hy => (refine Or.inl ⟨by rfl, ?_⟩; intro w hSw; (try go_split_ands); go_simp; (try with_reducible rfl))
    (try simp only [sq])
    refine wpAnyH_ready (rs := [15]) (by kernel_rfl) (by simp) ?_
    refine AllReadyH.cons rfl (fun KK hKK => ?_) AllReadyH.nil
    (try simp only [sq])
    obtain ⟨hcell, hset⟩ := own_cell_at HO3.out j (⟨x.e, F1, f1, x.A2, x.c2⟩ : CvM) (by rw [List.getElem?_set_self (List.getElem?_eq_some_iff.1 HX.out).1])
    obtain ⟨l8, f8⟩ := hcell 9 _ rfl
    have HNEW := Lib.hid (hset 9 (.slice F2 x.e.box.length f2) ⟨x.e, F1, f1, F2, f2⟩ (by omega) rfl)
    clear hcell hset
    go_simp
    obtain ⟨V4, hV4⟩ : ∃ q, q = V3.setCell ⟨gl, j * 10 + 9, none⟩ (.slice F2 x.e.box.length f2) := ⟨_, rfl⟩
    change KK _ (V3.setCell ⟨gl, j * 10 + 9, none⟩ (.slice F2 x.e.box.length f2))
    have HO4 : Hid (OwnS cvl 10 59 V4 q2.heap.size (.slice (some ⟨gl, 0, none⟩) (n + 1) cap) (L'.set j ⟨x.e, F1, f1, F2, f2⟩)) := Lib.hid (by rw [hV4]; have hnew := HNEW.out; rw [List.set_set] at hnew; exact hnew)
    have HK4 : Hid (V4.heap.size = V3.heap.size) := Lib.hid (by rw [hV4]; simp)
    have HG4 : Hid (∀ g, g ≠ gl → V4.heap[g]? = V3.heap[g]?) := Lib.hid fun g hg => by rw [hV4]; exact heap_setCell_other _ _ _ _ hg
    have HB4 : Hid (Below w.heap.size w V4) := Lib.hid (by rw [hV4]; exact Below.setCell (p := ⟨gl, j * 10 + 9, none⟩) HB3.out (by show w.heap.size ≤ gl; omega) _)
    have HR4 : Hid (CvRow V4 wr.heap.size x.e.third x.e.first x.e.party (.slice x.A1 x.e.ticket.length x.c1) (.slice x.A2 x.e.box.length x.c2)) := Lib.hid (by rw [hV4]; exact Whole.far HR3.out (a := ⟨gl, j * 10 + 9, none⟩) (by show wr.heap.size ≠ gl; omega) _)
    have HD8 : Hid (V4.cell? ⟨wr.heap.size, 8, none⟩ = some (.slice x.A1 nt x.c1) ∧ V4.cell? ⟨wr.heap.size, 9, none⟩ = some (.slice x.A2 nb x.c2)) := Lib.hid (by rw [HNT.out.1, HNT.out.2]; exact ⟨HR4.out.cell 8, HR4.out.cell 9⟩)
    rw [← hV4]
    clear hV4 l8 f8 HNEW
    refine hKK.out _ _ (HD8.out) (fun hHeld => ?_)
    clear hKK KK
    (try simp only [sq])
    refine wpAnyH_done (by kernel_rfl) ?_ _
    clear hHeld
    have hjl := (List.getElem?_eq_some_iff.1 HX.out).1
    have hkeep : ∀ g, g ≠ gl → V4.heap[g]? = V2.heap[g]? := fun g hg => (HG4.out g hg).trans (HG3.out g hg)
    have hsz42 : V4.heap.size = V2.heap.size := HK4.out.trans HK3.out
    have HF1 : Hid ((L'.set j (⟨x.e, F1, f1, F2, f2⟩ : CvM)).map (·.e) = l ++ [c]) := Lib.hid (by
      rw [List.map_set, ← HLE.out.1]
      exact set_same _ _ _ (by rw [List.getElem?_map, HX.out]; rfl))
    have HF2 : Hid ((L'.set j (⟨x.e, F1, f1, F2, f2⟩ : CvM)).length = n + 1) := Lib.hid (by rw [List.length_set]; exact HLE.out.2)
    have HF3 : Hid (V4.ownsRow q2.heap.size 59 10 (.slice (some ⟨gl, 0, none⟩) (n + 1) cap) (n + 1) (fl cvl (L'.set j (⟨x.e, F1, f1, F2, f2⟩ : CvM)))) := Lib.hid (by
      have h := HO4.out
      change V4.ownsRow _ _ 10 _ (L'.set j _).length _ at h
      rw [HF2.out] at h
      exact h)
    have HF4 : Hid (ExR w gl (L'.set j (⟨x.e, F1, f1, F2, f2⟩ : CvM)) (j + 1) V4) := Lib.hid fun i y hy => by
      by_cases hij : i = j
      · subst hij
        rw [List.getElem?_set_self hjl] at hy
        injection hy with hy
        subst hy
        exact ⟨(H1b.out.keep (w' := V4) fun g _ hg => hkeep g (by omega)).mono fun g _ hg => ⟨fun _ => by omega, by omega⟩, (H2.out.keep (w' := V4) fun g _ hg => hkeep g (by have hg : V1.heap.size ≤ g := hg; omega)).mono fun g _ hg => ⟨fun _ => by have hg : V1.heap.size ≤ g := hg; omega, by have hg : V1.heap.size ≤ g := hg; omega⟩, HWF.out⟩
      · rw [List.getElem?_set_ne (fun h => hij h.symm)] at hy
        have h := HE2.out i y hy
        exact ⟨(h.1.keep (w' := V4) fun g _ hg => hkeep g hg.2).mono fun g _ hg => ⟨fun hi => hg.1 (by omega), hg.2⟩, (h.2.1.keep (w' := V4) fun g _ hg => hkeep g hg.2).mono fun g _ hg => ⟨fun hi => hg.1 (by omega), hg.2⟩, h.2.2⟩
    have HF5 : Hid (gl < V4.heap.size) := Lib.hid (by omega)
    clear hjl hkeep hsz42
    go_wp2_with fail
    go_roundw
    case rel => exact ⟨j + 1, _, by go_num, by omega, HF1.out, HF2.out, HF3.out, HF4.out, HF5.out, HB4.out⟩
    case measure => simp [intOf]; omega
end Go.Proofs.YtiikhjifjdpgdaaDoor
namespace Go.Proofs.YtiikhjifjdpgdaaDoor
open Go Go.RowKit Sh Leaf
namespace Sh

theorem mac_new {a : Alg} {k m : List B8} (hf : a.free = true) (hn : fnd a.macs k m = none) (hm : m.length ≤ 4096) (hl : a.macs.length < 1000) : aMac a k m = ({ a with macs := a.macs ++ [⟨k, m, sym 109#8 ((a.macs.length + 1 : Nat) : Int)⟩] }, sym 109#8 ((a.macs.length + 1 : Nat) : Int), 0) := by
  unfold aMac
  rw [if_neg (by omega)]
  simp only [hn]
  rw [if_neg (by omega)]
  unfold ntag
  rw [if_pos hf]
theorem node_new {a : Alg} {k m : List B8} (hf : a.free = true) (hn : fnd a.macs k m = none) (hm : m.length ≤ 4096) (hl : a.macs.length < 900) (hn2 : fnd (a.macs ++ [⟨k, m, sym 109#8 ((a.macs.length + 1 : Nat) : Int)⟩]) (sym 109#8 ((a.macs.length + 1 : Nat) : Int)) nodew = none) :
    aNode a k m = ({ a with macs := a.macs ++ [⟨k, m, sym 109#8 ((a.macs.length + 1 : Nat) : Int)⟩] ++ [⟨sym 109#8 ((a.macs.length + 1 : Nat) : Int), nodew, sym 109#8 ((a.macs.length + 1 + 1 : Nat) : Int)⟩] }, sym 109#8 ((a.macs.length + 1 : Nat) : Int), 0) := by
  have h1 := mac_new hf hn hm (by omega)
  have h2 := mac_new (a := { a with macs := a.macs ++ [⟨k, m, sym 109#8 ((a.macs.length + 1 : Nat) : Int)⟩] }) (k := sym 109#8 ((a.macs.length + 1 : Nat) : Int)) (m := nodew) hf hn2 (by decide) (by show (a.macs ++ [_]).length < 1000; rw [List.length_append]; simp; omega)
  unfold aNode
  rw [h1]
  simp only
  rw [h2]
  simp only
  rw [if_neg (by simp), if_neg (by simp)]
  simp
theorem zero_sym (k : B8) (z : Int) : ztag ≠ sym k z := fun h => by
  have h1 := congrArg (fun l => l[0]?) h
  unfold sym at h1
  simp at h1
theorem fnd_cons_ne {e : Me} {t : List Me} {k m : List B8} (h : ¬ (e.key = k ∧ e.msg = m)) : fnd (e :: t) k m = fnd t k m := by
  unfold fnd
  rw [List.find?_cons, decide_eq_false h]
abbrev rcv (n : Int) : Cav := ⟨false, ⟨7, 0, 0, 0, [], n⟩, 0, [], []⟩
theorem rcv_ok (n : Int) (h0 : 0 ≤ n) (h1 : n ≤ 1000) : cvok (rcv n) := by
  right
  refine ⟨rfl, ?_, rfl, rfl, rfl⟩
  unfold pok
  simp
  omega
theorem cavm_nodew (c : Cav) : nodew ≠ cavm c := fun h => by
  have h1 := congrArg (fun l => l[0]?) h
  unfold cavm cavw nodew at h1
  simp at h1
theorem awake_words {a1 b : Alg} {p q : Pss} {e f : Int} (h1 : (a1, p, e) = pMint ⟨true, ztag, 0, [], []⟩ 1 ztag 1) (h2 : (b, q, f) = pAtt a1 p (rcv 3)) :
    (e = 0 ∧ f = 0 ∧ p.tag = sym 109#8 1 ∧ q.tag = sym 109#8 3 ∧ b.macs.length = 4 ∧ q.cavs.length = 1) ∧ p.cavs.length = 0 ∧ a1.macs.length = 2 := by
  have hm1 : minto 1 1 := by unfold minto; omega
  have hn1 := node_new (a := ⟨true, ztag, 0, [], []⟩) (k := ztag) (m := mintm 1) rfl rfl (by have := mintm_len (n := 1) (by omega); omega) (by simp) (by
    show fnd [_] _ _ = none
    rw [fnd_cons_ne (fun h => zero_sym _ _ h.1)]
    rfl)
  unfold pMint at h1
  rw [if_pos hm1] at h1
  simp only [show (1 : Int).toNat = 1 from rfl] at h1
  rw [hn1] at h1
  simp only [List.nil_append, List.length_nil, Nat.zero_add, ne_eq, not_true_eq_false, ↓reduceIte] at h1
  injection h1 with h1 h3
  injection h3 with h3 h4
  subst h1 h3 h4
  have hk := rcv_ok 3 (by omega) (by omega)
  have hr : roomc [] (rcv 3) := by unfold roomc; simp
  have hn2 := node_new (a := ⟨true, ztag, 0, [⟨ztag, mintm 1, sym 109#8 ((1 : Nat) : Int)⟩, ⟨sym 109#8 ((1 : Nat) : Int), nodew, sym 109#8 ((1 + 1 : Nat) : Int)⟩], []⟩) (k := sym 109#8 ((1 : Nat) : Int)) (m := cavm (rcv 3)) rfl (by
    rw [fnd_cons_ne (fun h => zero_sym _ _ h.1), fnd_cons_ne (fun h => cavm_nodew _ h.2)]
    rfl) (by have := cavm_len hk; omega) (by simp) (by
    show fnd (_ :: _ :: [_]) _ _ = none
    rw [fnd_cons_ne (fun h => zero_sym _ _ h.1), fnd_cons_ne (fun h => sym_ne2 (by simp) (by simp) (by simp) (by simp) (by simp) h.1), fnd_cons_ne (fun h => sym_ne2 (by simp) (by simp) (by simp) (by simp) (by simp) h.1)]
    rfl)
  unfold pAtt at h2
  rw [if_pos hk, if_pos hr] at h2
  simp only [List.cons_append, List.nil_append] at h2
  rw [hn2] at h2
  simp only [ne_eq, not_true_eq_false, ↓reduceIte] at h2
  injection h2 with h2 h3
  injection h3 with h3 h4
  subst h2 h3 h4
  exact ⟨⟨rfl, rfl, rfl, rfl, rfl, rfl⟩, rfl, rfl⟩
end Sh
end Go.Proofs.YtiikhjifjdpgdaaDoor
namespace Go.Proofs.YtiikhjifjdpgdaaDoor
open Go Go.RowKit Sh Leaf

set_option linter.unusedSimpArgs false in
set_option linter.unusedVariables false in
set_option maxRecDepth 100000 in
set_option maxHeartbeats 4000000 in
theorem crides (n : Int) (w : World) (Q : Nat → Prop) :
    Calls Tryd.prog 51 #[.int .i64 n] w fun e w' => (∃ v, e = .returned v ∧ CavV w' Q v (rcv n)) ∧ Below w.heap.size w w' := by
  obtain ⟨p, hp⟩ : ∃ p, p = w.alloc (.cells (cvrow false ⟨7, 0, 0, 0, [], n⟩ 0 (.slice none 0 0) (.slice none 0 0)) 59) := ⟨_, rfl⟩
  have hr : CvRow p w.heap.size false ⟨7, 0, 0, 0, [], n⟩ 0 (.slice none 0 0) (.slice none 0 0) := by rw [hp]; exact Whole.here _ _ _
  have hb : Below w.heap.size w p := by rw [hp]; exact (Below.refl _ _).alloc (Nat.le_refl _) _
  have hlit : cvrow false ⟨7, 0, 0, 0, [], n⟩ 0 (.slice none 0 0) (.slice none 0 0) = #[.bool false, .int .i64 7, .int .u64 0, .int .i64 0, .int .i64 0, .string { data := #[] }, .int .i64 n, .int .i64 0, .slice none 0 0, .slice none 0 0] := by
    unfold cvrow
    rw [← sof_none]
    rfl
  have HR := Lib.hid hr
  have HB := Lib.hid hb
  have HP := Lib.hid hp
  have HLIT := Lib.hid hlit
  clear hr hb hp hlit
  go_enter Tryd.func51, Tryd.ntmps51
  go_wp2_with fail
  rw [← HLIT.out, ← HP.out]
  refine bodyPost_ret (results_cav Tryd.results51 _ rfl HR.out) rfl ?_
  exact ⟨⟨_, rfl, none, 0, none, 0, rfl, Bytes.nil _ _, Bytes.nil _ _, by unfold Cwf; simp⟩, HB.out⟩
end Go.Proofs.YtiikhjifjdpgdaaDoor
namespace Go.Proofs.YtiikhjifjdpgdaaDoor
open Go Go.RowKit Sh Leaf

theorem wpList_buildSlice_mac {w : World} {ops : Array Oper} {rest : List Oper} {o : Oper} {a : Act} {Q : Exit → Act → World → Prop} (hg : o.guard = none) (x : Operand) (ho : o.op = .buildSlice 29 1 #[(0, x)])
    (N : Nat) (hN : w.heap.size = N) (dst : Option Tmp) (hdst : o.dst = dst) {X : MeM} (hx : a.eval x = .agg (mcl X).toArray)
    (h : wpList Tryd.prog ops Q rest (a.put dst (.slice (some ⟨N, 0, none⟩) 1 1)) (w.alloc (.cells (mcl X).toArray 90))) : wpList Tryd.prog ops Q (o :: rest) a w := by
  refine Great.wpList_buildSliceTo hg 29 90 1 _ ho N hN dst hdst Tryd.underlying29 _ ?_ h
  have e1 : (#[(0, x)].map fun (i, x) => (i, a.eval x)).toList = [(0, .agg (mcl X).toArray)] := by simp [hx]
  rw [e1]
  exact bs_mac X
theorem wpList_load_mac {w : World} {g : Nat} {ops : Array Oper} {rest : List Oper} {o : Oper} {a : Act} {Q : Exit → Act → World → Prop} (hgd : o.guard = none) (x : Operand) (ho : o.op = .load 90 x)
    (hx : a.eval x = .pointer (some ⟨g, 0, none⟩)) {cs : Array Value} (hg : Whole w g 90 cs) (h8 : cs.size = 65) (h : wpList Tryd.prog ops Q rest (a.put o.dst (.agg cs)) w) : wpList Tryd.prog ops Q (o :: rest) a w :=
  wpList_load_row hgd 90 x ho g hx 90 _ (0, 0) _ hg Tryd.underlying90 rfl (by rw [macSize, h8]) h
theorem mcl_size (X : MeM) : (mcl X).toArray.size = 65 := by rw [List.size_toArray, mcl_len]
theorem alv_more {w W : World} {Q : Nat → Prop} {a : Alg} {Ab A5 : Option Addr} {cb c5 : Nat} {L1 : List MeM} {X : MeM} (hL : L1.map (·.e) = a.macs) (hB1 : ∀ x ∈ L1, Bytes W (fun g => Q g ∨ w.heap.size ≤ g) (.slice x.A x.e.msg.length x.c) x.e.msg)
    (hS : Seq mcl mok W (fun g => w.heap.size ≤ g) A5 c5 (L1 ++ [X])) (hX : Bytes W (fun g => w.heap.size ≤ g) (.slice X.A X.e.msg.length X.c) X.e.msg) (hBx : Bxs W Q Ab cb a.boxes) (hA : Aok a) (hlen : a.macs.length < 1000) :
    AlV W (fun g => Q g ∨ w.heap.size ≤ g) (.agg (alc a.free a.seed a.fresh (.slice A5 (L1 ++ [X]).length c5) (.slice Ab a.boxes.length cb))) { a with macs := a.macs ++ [X.e] } := by
  have hl : (a.macs ++ [X.e]).length = (L1 ++ [X]).length := by rw [← hL]; simp
  refine ⟨A5, c5, Ab, cb, by rw [← hl], ⟨L1 ++ [X], by rw [← hL]; simp, hS.mono fun _ _ h => .inr h, fun x hx => ?_⟩, hBx.mono fun _ _ h => .inl h, ⟨hA.seed, hA.lo, hA.hi, by show (a.macs ++ [X.e]).length ≤ 1000; rw [List.length_append]; simp; omega, hA.boxes⟩⟩
  rcases List.mem_append.1 hx with h | h
  · exact hB1 x h
  · rw [List.mem_singleton.1 h]
    exact hX.mono fun _ _ h => .inr h
theorem tag_len {l : List B8} (h : l.length = 32) : (l.map byt).length = 32 := by rw [List.length_map, h]
set_option linter.unusedSimpArgs false in
set_option maxRecDepth 100000 in
set_option maxHeartbeats 8000000 in
theorem pmac {w : World} {Q Q2 : Nat → Prop} {x : Value} {B : Option Addr} {d : Nat} {a : Alg} {K m : List B8} (hx : AlV w Q x a) (hlen : a.macs.length < 1000) (hK : K.length = 32) (hm : Bytes w Q2 (.slice B m.length d) m) (hml : m.length ≤ 100000) (hT : Tables w) :
    Calls Tryd.prog 12 #[x, .agg (K.map byt).toArray, .slice B m.length d] w fun e w' => AlgR w' (fun g => Q g ∨ w.heap.size ≤ g) e (aMac a K m) ∧ Below w.heap.size w w' := by
  have hx0 := hx
  obtain ⟨Am, cm, Ab, cb, rfl, hM, hBx, hA⟩ := hx
  obtain ⟨p, hp⟩ : ∃ p, p = (((w.alloc (.cells (alc a.free a.seed a.fresh (.slice Am a.macs.length cm) (.slice Ab a.boxes.length cb)) 32)).alloc (.cells (K.map byt).toArray 28)).alloc (.cells zar 32)).alloc (.cells ztr 28) := ⟨_, rfl⟩
  have hr : ALRow p w.heap.size a.free a.seed a.fresh (.slice Am a.macs.length cm) (.slice Ab a.boxes.length cb) := by rw [hp]; exact (((Whole.here _ _ _).alloc _).alloc _).alloc _
  have hk : TGRow p (w.heap.size + 1) K := by rw [hp]; exact ((Whole.at_ _ _ _ _ (by simp)).alloc _).alloc _
  have h6 : Whole p (w.heap.size + 1 + 1) 32 zar := by rw [hp]; exact (Whole.at_ _ _ _ _ (by simp)).alloc _
  have h7 : Whole p (w.heap.size + 1 + 1 + 1) 28 ztr := by rw [hp]; exact Whole.at_ _ _ _ _ (by simp)
  have hb : Below w.heap.size w p := by rw [hp]; exact ((((Below.refl _ _).alloc (Nat.le_refl _) _).alloc (by simp) _).alloc (by simp; omega) _).alloc (by simp; omega) _
  have hps : (w.heap.size + 1 + 1 + 1) < p.heap.size := h7.lt
  have HX := Lib.hid hx0
  have HMC := Lib.hid hM
  have HBX := Lib.hid hBx
  have HA := Lib.hid hA
  have HM := Lib.hid hm
  have HR := Lib.hid hr
  have HK := Lib.hid hk
  have H6 := Lib.hid h6
  have H7 := Lib.hid h7
  have HB := Lib.hid hb
  have HLEN := Lib.hid hlen
  clear hx0 hM hBx hA hm hr hk h6 h7 hb
  obtain ⟨R, hR⟩ : ∃ R, R = aMac a K m := ⟨_, rfl⟩
  have hRR := hR
  unfold aMac at hRR
  rw [← hR]
  clear hR
  by_cases hbig : 4096 < m.length
  · skip
    rw [if_pos hbig] at hRR
    have HRR := Lib.hid hRR
    have hb1 : (4096 : Int) < (m.length : Int) := by omega
    clear hRR hbig
    go_enter Tryd.func12, Tryd.ntmps12
    go_upto_region 1 with fail
    rw [zar_lit, ztr_lit, ← hp]
    clear hp
    go_wp2_with (first
      | (with_reducible refine wpList_store_alg rfl _ _ rfl (g := (w.heap.size + 1 + 1)) rfl rfl H6.out zar_size rfl (by with_unfolding_all rfl) ?_)
      | (with_reducible refine wpList_store_tag rfl _ _ rfl (g := (w.heap.size + 1 + 1 + 1)) rfl rfl (Whole.setRow_far H7.out (by omega) _) ztr_size rfl (by with_unfolding_all rfl) ?_))
    rw [zar_lit, ztr_lit]
    have e1 := Whole.setRow_far (Whole.setRow H6.out zar) (g' := (w.heap.size + 1 + 1 + 1)) (by omega) ztr
    have e2 := Whole.setRow (Whole.setRow_far H7.out (g' := (w.heap.size + 1 + 1)) (by omega) zar) ztr
    refine bodyPost_ret (results_alg3 Tryd.results12 _ rfl rfl _ rfl zar_size ztr_size e1 e2) rfl ?_
    show AlgR _ _ _ R ∧ _
    rw [HRR.out]
    exact ⟨⟨_, by rw [ztr_eq]; rfl, alv_zero _ _⟩, below_setRow (below_setRow HB.out (by omega) _) (by omega) _⟩
  rw [if_neg hbig] at hRR
  have hb1 : ¬ (4096 : Int) < (m.length : Int) := by omega
  obtain ⟨f, hf⟩ : ∃ f, f = fnd a.macs K m := ⟨_, rfl⟩
  rw [← hf] at hRR
  have hfl : (f.getD ztag).length = 32 := by
    cases hq : f with
    | none => rfl
    | some t => exact fnd_len (hf.symm.trans hq) (Macs.tags HMC.out)
  have hcl := arecorded (HMC.out.below HB.out (Nat.le_refl _)) HA.out.macs hK (HM.out.below HB.out (Nat.le_refl _))
  rw [← hf] at hcl
  unfold fres at hcl
  obtain ⟨E0, hE0⟩ : ∃ E, E = f.getD ztag := ⟨_, rfl⟩
  rw [← hE0] at hcl hfl
  have hr0 := HR.out
  obtain ⟨c0, c33, c34, c35⟩ := ALRow.cells hr0
  have HE0 := Lib.hid hE0
  have HRR0 := Lib.hid hRR
  clear hf hr0 c0 c33 c35 hE0 hRR
  go_enter Tryd.func12, Tryd.ntmps12
  go_upto_region 1 with fail
  rw [zar_lit, ztr_lit, ← hp]
  clear hp
  go_wp2_with (first
    | (with_reducible refine wpList_load_alg rfl _ rfl rfl HR.out (alc_size _ _ _ _ _) ?_)
    | (with_reducible refine wpList_load_tag rfl _ rfl rfl HK.out (tag_size hK) ?_))
  refine hcl.mono ?_
  rintro e w1 ⟨rfl, hb1'⟩
  clear hcl c34
  have hpw : p.heap.size ≤ w1.heap.size := hb1'.size
  go_upto_region 4 with (with_reducible refine wpList_store_tag rfl _ _ rfl (g := w1.heap.size) rfl rfl (Whole.here w1 _ _) rfl (tag_size hfl) (tag_one _) ?_)
  rw [ztr_lit]
  obtain ⟨u, hu⟩ : ∃ x, x = (w1.alloc (.cells ztr 28)).setRow w1.heap.size (E0.map byt).toArray := ⟨_, rfl⟩
  have ht : TGRow u w1.heap.size E0 := by rw [hu]; exact Whole.setRow (Whole.here _ _ _) _
  have hbu : Below w1.heap.size w1 u := by rw [hu]; exact below_setRow ((Below.refl _ _).alloc (Nat.le_refl _) _) (Nat.le_refl _) _
  rw [← hu]
  clear hu
  have hwu : w1.heap.size < u.heap.size := ht.lt
  have HBU : Hid (Below p.heap.size p u) := Lib.hid (hb1'.trans (hbu.mono hpw))
  have HTU := Lib.hid ht
  clear hb1' hbu ht
  obtain ⟨c0, c33, c34, c35⟩ := ALRow.cells (Whole.below HR.out HBU.out (by omega))
  clear c0 c33 c35
  cases f with
  | some t0 =>
    have hE : E0 = t0 := HE0.out
    have HRR : Hid (R = (a, E0, 0)) := Lib.hid (by rw [HRR0.out, hE])
    clear hE c34
    go_upto_region 5 with fail
    have hru : ALRow u.drew w.heap.size a.free a.seed a.fresh (.slice Am a.macs.length cm) (.slice Ab a.boxes.length cb) := Whole.drew (Whole.below HR.out HBU.out (by omega))
    have h6u : Whole u.drew (w.heap.size + 1 + 1) 32 zar := Whole.drew (Whole.below H6.out HBU.out (by omega))
    have h7u : Whole u.drew (w.heap.size + 1 + 1 + 1) 28 ztr := Whole.drew (Whole.below H7.out HBU.out (by omega))
    have htu : TGRow u.drew w1.heap.size E0 := Whole.drew HTU.out
    have bbu : Below w.heap.size w u.drew := (HB.out.trans (HBU.out.mono (by omega))).drew
    refine wp_region_held_drew (S := fun W => W.rangeAt w.heap.size 0 (alcl a.free a.seed a.fresh (.slice Am a.macs.length cm) (.slice Ab a.boxes.length cb)) ∧ W.rangeAt w1.heap.size 0 ((E0).map byt)) (by kernel_rfl) (⟨Whole.range hru, TGRow.range htu⟩) (fun hHeld => ?_)
    apply wpT (i := 0) rfl (by kernel_rfl)
    case hQ => exact fun _ _ _ h => h
    case hS => exact hHeld
    case hy => exact yieldsIf_load_mid (by rfl) 32 _ rfl w.heap.size (0) rfl (alcl a.free a.seed a.fresh (.slice Am a.macs.length cm) (.slice Ab a.boxes.length cb)) _ (fun w hS => hS.1) Tryd.underlying32 rfl (by rw [algSize, alcl_length])
    (try simp only [sq])
    apply wpT (i := 1) rfl (by kernel_rfl)
    case hQ => exact fun _ _ _ h => h
    case hS => exact hHeld
    case hy => exact yieldsIf_load_mid (by rfl) 28 _ rfl w1.heap.size (0) rfl ((E0).map byt) _ (fun w hS => hS.2) Tryd.underlying28 rfl (by rw [tagSize, tag_len (hfl)])
    (try simp only [sq])
    refine wpAnyH_ready (rs := [2]) (by kernel_rfl) (by simp) ?_
    refine AllReadyH.cons rfl (fun KK hKK => ?_) AllReadyH.nil
    (try simp only [sq])
    obtain ⟨X1, hX1⟩ : ∃ x, x = u.drew.setRow (w.heap.size + 1 + 1) ((alcl a.free a.seed a.fresh (.slice Am a.macs.length cm) (.slice Ab a.boxes.length cb)).toArray) := ⟨_, rfl⟩
    have hsX1 : ALRow X1 w.heap.size a.free a.seed a.fresh (.slice Am a.macs.length cm) (.slice Ab a.boxes.length cb) := by rw [hX1]; exact Whole.setRow_far hru (by omega) _
    have e1 : Whole X1 (w.heap.size + 1 + 1) 32 (alc a.free a.seed a.fresh (.slice Am a.macs.length cm) (.slice Ab a.boxes.length cb)) := by rw [hX1]; exact Whole.setRow h6u _
    have h7X1 : Whole X1 (w.heap.size + 1 + 1 + 1) 28 ztr := by rw [hX1]; exact Whole.setRow_far h7u (by omega) _
    have bbX1 : Below w.heap.size w X1 := by rw [hX1]; exact below_setRow bbu (by omega) _
    have htX1 : TGRow X1 w1.heap.size (E0) := by rw [hX1]; exact Whole.setRow_far htu (by omega) _
    rw [if_pos (by kernel_rfl)]
    refine wp_store_row 32 _ _ rfl (w.heap.size + 1 + 1) _ rfl rfl 32 _ h6u (by rw [algSize, List.size_toArray, alcl_length]) (by rw [zar_size, List.size_toArray, alcl_length]) (alc_one _ _ _ _ _ _ _ _ _) ?_
    rw [← hX1]
    clear hX1
    refine hKK.out _ _ (⟨Whole.range hsX1, TGRow.range htX1⟩) (fun hHeld => ?_)
    clear hKK KK
    (try simp only [sq])
    refine wpAnyH_ready (rs := [3]) (by kernel_rfl) (by simp) ?_
    refine AllReadyH.cons rfl (fun KK hKK => ?_) AllReadyH.nil
    (try simp only [sq])
    have e1o := e1
    clear e1
    obtain ⟨X2, hX2⟩ : ∃ x, x = X1.setRow (w.heap.size + 1 + 1 + 1) (((E0).map byt).toArray) := ⟨_, rfl⟩
    have hsX2 : ALRow X2 w.heap.size a.free a.seed a.fresh (.slice Am a.macs.length cm) (.slice Ab a.boxes.length cb) := by rw [hX2]; exact Whole.setRow_far hsX1 (by omega) _
    have e1 : Whole X2 (w.heap.size + 1 + 1) 32 (alc a.free a.seed a.fresh (.slice Am a.macs.length cm) (.slice Ab a.boxes.length cb)) := by rw [hX2]; exact Whole.setRow_far e1o (by omega) _
    have e2 : TGRow X2 (w.heap.size + 1 + 1 + 1) (E0) := by rw [hX2]; exact Whole.setRow h7X1 _
    have bbX2 : Below w.heap.size w X2 := by rw [hX2]; exact below_setRow bbX1 (by omega) _
    have htX2 : TGRow X2 w1.heap.size (E0) := by rw [hX2]; exact Whole.setRow_far htX1 (by omega) _
    rw [if_pos (by kernel_rfl)]
    refine wp_store_row 28 _ _ rfl (w.heap.size + 1 + 1 + 1) _ rfl rfl 28 _ h7X1 (by rw [tagSize, tag_size (hfl)]) (by rw [ztr_size, tag_size (hfl)]) (tag_one _) ?_
    rw [← hX2]
    clear hX2
    refine hKK.out _ _ (⟨Whole.range hsX2, TGRow.range htX2⟩) (fun hHeld => ?_)
    clear hKK KK
    (try simp only [sq])
    apply wpT (i := 4) rfl (by kernel_rfl)
    case hQ => exact fun _ _ _ h => h
    case hS => exact hHeld
    case hy => (refine Or.inl ⟨by rfl, ?_⟩; intro w hSw; (try go_split_ands); go_simp; (try with_reducible rfl))
    (try simp only [sq])
    refine wpAnyH_done (by kernel_rfl) ?_ _
    go_wp2_with fail
    have hbf := bbX2
    refine bodyPost_ret (results_alg3 Tryd.results12 _ rfl rfl _ rfl (alc_size _ _ _ _ _) (tag_size (hfl)) e1 e2) rfl ?_
    show AlgR _ _ _ R ∧ _
    rw [HRR.out]
    exact ⟨⟨_, rfl, AlV.mono ⟨Am, cm, Ab, cb, rfl, HMC.out.below hbf (Nat.le_refl _), HBX.out.below hbf (Nat.le_refl _), HA.out⟩ fun _ _ h => .inl h⟩, hbf⟩
  | none =>
    obtain ⟨E, hE⟩ : ∃ E, E = ntag a K m := ⟨_, rfl⟩
    have hEl : E.length = 32 := by rw [hE]; exact ntag_length _ _ _
    have hng : ¬ 65536 ≤ a.macs.length := by omega
    have hRR : R = ({ a with macs := a.macs ++ [⟨K, m, E⟩] }, E, 0) := by
      have := HRR0.out
      simp only [if_neg hng] at this
      rw [this, hE]
    have HRR := Lib.hid hRR
    have hnt := antag (HX.out.below (HB.out.trans (HBU.out.mono (by omega))) (Nat.le_refl _)) hK (HM.out.below (HB.out.trans (HBU.out.mono (by omega))) (Nat.le_refl _)) hml (hT.below (Nat.le_refl _) (HB.out.trans (HBU.out.mono (by omega))))
    rw [← hE] at hnt
    have HLN := Lib.hid hlen
    have hru := Whole.below HR.out HBU.out (by omega)
    have hku := Whole.below HK.out HBU.out (by omega)
    have HRU := Lib.hid hru
    have HKU := Lib.hid hku
    have hln2 : ¬ (65536 : Int) ≤ (a.macs.length : Int) := by omega
    clear hE hRR hru hku hlen hng
    go_wp2_with (first
      | (with_reducible refine wpList_load_alg rfl _ rfl rfl HRU.out (alc_size _ _ _ _ _) ?_)
      | (with_reducible refine wpList_load_tag rfl _ rfl rfl HKU.out (tag_size hK) ?_))
    refine hnt.mono ?_
    rintro e w2 ⟨rfl, hb2⟩
    clear hnt c34
    have hpw2 : u.heap.size ≤ w2.heap.size := hb2.size
    have hpu2 : p.heap.size ≤ u.heap.size := HBU.out.size
    go_upto_region 9 with (first
      | (with_reducible refine wpList_store_tag rfl _ _ rfl (g := w2.heap.size) rfl rfl (Whole.here w2 _ _) rfl (tag_size hEl) (tag_one _) ?_))
    rw [ztr_lit]
    obtain ⟨u2, hu⟩ : ∃ x, x = (w2.alloc (.cells ztr 28)).setRow w2.heap.size (E.map byt).toArray := ⟨_, rfl⟩
    have ht : TGRow u2 w2.heap.size E := by rw [hu]; exact Whole.setRow (Whole.here _ _ _) _
    have hbu : Below w2.heap.size w2 u2 := by rw [hu]; exact below_setRow ((Below.refl _ _).alloc (Nat.le_refl _) _) (Nat.le_refl _) _
    rw [← hu]
    clear hu
    have hwu2 : w2.heap.size < u2.heap.size := ht.lt
    have HB2 : Hid (Below p.heap.size p u2) := Lib.hid (HBU.out.trans ((hb2.mono hpu2).trans (hbu.mono (by omega))))
    have HT2 := Lib.hid ht
    have HM2 := Lib.hid (HM.out.below (HB.out.trans (HB2.out.mono (by omega))) (Nat.le_refl _))
    clear hb2 hbu ht
    have hKl : (K.map byt).length = 32 := tag_len hK
    have hEl2 : (E.map byt).length = 32 := tag_len hEl
    have HCC : Hid (∀ W, Below u2.heap.size u2 W → W.rangeAt (w.heap.size + 1) 0 (K.map byt) ∧ W.rangeAt w2.heap.size 0 (E.map byt)) := Lib.hid fun W hb => ⟨TGRow.range (Whole.below (Whole.below HK.out HB2.out (by omega)) hb (by omega)), TGRow.range (Whole.below HT2.out hb (by omega))⟩
    simp only [Act.put]
    go_cut [12] (fun s wx => ∃ (g12 : Nat) (D : Option Addr) (dc : Nat), s = .pointer (some ⟨g12, 0, none⟩) ∧ Whole wx g12 90 (mcl ⟨⟨K, m, E⟩, D, dc⟩).toArray ∧ Bytes wx (fun b => p.heap.size ≤ b) (.slice D m.length dc) m ∧ Below u2.heap.size u2 wx)
    case first =>
      have bU0 : Below u2.heap.size u2 u2.drew := (Below.refl _ _).drew
      refine wp_region_held_drew (S := fun W => W.rangeAt (w.heap.size + 1) 0 (K.map byt) ∧ W.rangeAt w2.heap.size 0 (E.map byt)) (by kernel_rfl) (HCC.out _ bU0) (fun hHeld => ?_)
      generalize u2.drew = U0 at bU0 hHeld ⊢
      have bU := bU0
      apply wpT (i := 0) rfl (by kernel_rfl)
      case hQ => exact fun _ _ _ h => h
      case hS => exact hHeld
      case hy => exact yieldsIf_load_mid (by rfl) 28 _ rfl (w.heap.size + 1) (0) rfl (K.map byt) _ (fun w hS => hS.1) Tryd.underlying28 rfl (by rw [tagSize, hKl])
      (try simp only [sq])
      apply wpT (i := 1) rfl (by kernel_rfl)
      case hQ => exact fun _ _ _ h => h
      case hS => exact hHeld
      case hy => (refine Or.inl ⟨by rfl, ?_⟩; intro w hSw; (try go_split_ands); go_simp; (try with_reducible rfl))
      (try simp only [sq])
      apply wpT (i := 3) rfl (by kernel_rfl)
      case hQ => exact fun _ _ _ h => h
      case hS => exact hHeld
      case hy => exact yieldsIf_load_mid (by rfl) 28 _ rfl w2.heap.size (0) rfl (E.map byt) _ (fun w hS => hS.2) Tryd.underlying28 rfl (by rw [tagSize, hEl2])
      (try simp only [sq])
      refine wpAnyH_ready (rs := [2, 5]) (by kernel_rfl) (by simp) ?_
      refine AllReadyH.cons rfl (fun KK hKK => ?_) (AllReadyH.cons rfl (fun KK hKK => ?_) AllReadyH.nil)
      · (try simp only [sq])
        go_simp
        go_at_call 40
        refine (clone _ m _ U0 (HM2.out.below bU (Nat.le_refl _)) (by omega)).mono ?_
        rintro e V1 ⟨vc, rfl, hv, hbv⟩
        obtain ⟨D, dc, rfl, -⟩ := id hv
        have bC : Below u2.heap.size u2 V1 := bU.trans (hbv.mono bU.size)
        have hsV : U0.heap.size ≤ V1.heap.size := hbv.size
        refine hKK.out _ _ (HCC.out _ bC) (fun hHeld => ?_)
        clear hKK KK
        (try simp only [sq])
        apply wpT (i := 4) rfl (by kernel_rfl)
        case hQ => exact fun _ _ _ h => h
        case hS => exact hHeld
        case hy => exact yieldsIf_build_mac (by rfl) _ _ _ rfl (e := ⟨K, m, E⟩) hK hEl rfl rfl rfl
        (try simp only [sq])
        refine wpAnyH_ready (rs := [5]) (by kernel_rfl) (by simp) ?_
        refine AllReadyH.cons rfl (fun KK hKK => ?_) AllReadyH.nil
        (try simp only [sq])
        obtain ⟨g12, hg12⟩ : ∃ g, g = V1.heap.size := ⟨_, rfl⟩
        obtain ⟨V0, hV0⟩ : ∃ x, x = V1.alloc (.cells zmr 90) := ⟨_, rfl⟩
        have hz0 : Whole V0 g12 90 zmr := by rw [hV0, hg12]; exact Whole.here _ _ _
        have bA : Below u2.heap.size u2 V0 := by rw [hV0]; exact bC.alloc bC.size _
        have hgl : u2.heap.size ≤ g12 := by rw [hg12]; exact bC.size
        have hv2 : Bytes V0 (fun b => b ≠ g12 ∧ p.heap.size ≤ b) (.slice D m.length dc) m := by rw [hV0]; exact (hv.mono (Q' := fun b => b ≠ g12 ∧ p.heap.size ≤ b) fun b hb hq => ⟨by omega, by have := bU.size; omega⟩).alloc _
        go_simp
        change KK _ (World.alloc _ (.cells zmr 90))
        rw [← hg12, ← hV0]
        clear hV0 hg12
        refine hKK.out _ _ (HCC.out _ bA) (fun hHeld => ?_)
        clear hKK KK
        (try simp only [sq])
        refine wpAnyH_ready (rs := [6]) (by kernel_rfl) (by simp) ?_
        refine AllReadyH.cons rfl (fun KK hKK => ?_) AllReadyH.nil
        (try simp only [sq])
        obtain ⟨V2, hV2⟩ : ∃ x, x = V0.setRow g12 (mcl ⟨⟨K, m, E⟩, D, dc⟩).toArray := ⟨_, rfl⟩
        have hr2 : Whole V2 g12 90 (mcl ⟨⟨K, m, E⟩, D, dc⟩).toArray := by rw [hV2]; exact Whole.setRow hz0 _
        have bD : Below u2.heap.size u2 V2 := by rw [hV2]; exact below_setRow bA hgl _
        have hv3 : Bytes V2 (fun b => b ≠ g12 ∧ p.heap.size ≤ b) (.slice D m.length dc) m := by rw [hV2]; exact Bytes.setRow hv2 (fun _ h => h.1) _
        rw [if_pos (by kernel_rfl)]
        refine wp_store_row 90 _ _ rfl g12 _ rfl rfl 90 _ hz0 (by rw [macSize, mcl_size]) (by rw [zmr_size, mcl_size]) (all_oneCell_toArray (mcl_one _)) ?_
        rw [← hV2]
        clear hV2
        refine hKK.out _ _ (HCC.out _ bD) (fun hHeld => ?_)
        clear hKK KK
        (try simp only [sq])
        refine wpAnyH_done (by kernel_rfl) ?_ _
        go_wp2_with fail
        go_meet
        exact ⟨g12, D, dc, rfl, hr2, hv3.mono fun _ _ h => h.2, bD⟩
      · (try simp only [sq])
        obtain ⟨g12, hg12⟩ : ∃ g, g = U0.heap.size := ⟨_, rfl⟩
        obtain ⟨V0, hV0⟩ : ∃ x, x = U0.alloc (.cells zmr 90) := ⟨_, rfl⟩
        have hz0 : Whole V0 g12 90 zmr := by rw [hV0, hg12]; exact Whole.here _ _ _
        have bA : Below u2.heap.size u2 V0 := by rw [hV0]; exact bU.alloc bU.size _
        have hgl : u2.heap.size ≤ g12 := by rw [hg12]; exact bU.size
        go_simp
        change KK _ (World.alloc _ (.cells zmr 90))
        rw [← hg12, ← hV0]
        clear hV0 hg12
        refine hKK.out _ _ (HCC.out _ bA) (fun hHeld => ?_)
        clear hKK KK
        (try simp only [sq])
        refine wpAnyH_ready (rs := [2]) (by kernel_rfl) (by simp) ?_
        refine AllReadyH.cons rfl (fun KK hKK => ?_) AllReadyH.nil
        (try simp only [sq])
        go_simp
        go_at_call 40
        refine (clone _ m _ V0 (HM2.out.below bA (Nat.le_refl _)) (by omega)).mono ?_
        rintro e V1 ⟨vc, rfl, hv, hbv⟩
        obtain ⟨D, dc, rfl, -⟩ := id hv
        have bC : Below u2.heap.size u2 V1 := bA.trans (hbv.mono bA.size)
        have hz1 : Whole V1 g12 90 zmr := Whole.below hz0 hbv hz0.lt
        have hv2 : Bytes V1 (fun b => b ≠ g12 ∧ p.heap.size ≤ b) (.slice D m.length dc) m := hv.mono fun b _ hb => ⟨by have := hz0.lt; omega, by have := bA.size; omega⟩
        refine hKK.out _ _ (HCC.out _ bC) (fun hHeld => ?_)
        clear hKK KK
        (try simp only [sq])
        apply wpT (i := 4) rfl (by kernel_rfl)
        case hQ => exact fun _ _ _ h => h
        case hS => exact hHeld
        case hy => exact yieldsIf_build_mac (by rfl) _ _ _ rfl (e := ⟨K, m, E⟩) hK hEl rfl rfl rfl
        (try simp only [sq])
        refine wpAnyH_ready (rs := [6]) (by kernel_rfl) (by simp) ?_
        refine AllReadyH.cons rfl (fun KK hKK => ?_) AllReadyH.nil
        (try simp only [sq])
        obtain ⟨V2, hV2⟩ : ∃ x, x = V1.setRow g12 (mcl ⟨⟨K, m, E⟩, D, dc⟩).toArray := ⟨_, rfl⟩
        have hr2 : Whole V2 g12 90 (mcl ⟨⟨K, m, E⟩, D, dc⟩).toArray := by rw [hV2]; exact Whole.setRow hz1 _
        have bD : Below u2.heap.size u2 V2 := by rw [hV2]; exact below_setRow bC hgl _
        have hv3 : Bytes V2 (fun b => b ≠ g12 ∧ p.heap.size ≤ b) (.slice D m.length dc) m := by rw [hV2]; exact Bytes.setRow hv2 (fun _ h => h.1) _
        rw [if_pos (by kernel_rfl)]
        refine wp_store_row 90 _ _ rfl g12 _ rfl rfl 90 _ hz1 (by rw [macSize, mcl_size]) (by rw [zmr_size, mcl_size]) (all_oneCell_toArray (mcl_one _)) ?_
        rw [← hV2]
        clear hV2
        refine hKK.out _ _ (HCC.out _ bD) (fun hHeld => ?_)
        clear hKK KK
        (try simp only [sq])
        refine wpAnyH_done (by kernel_rfl) ?_ _
        go_wp2_with fail
        go_meet
        exact ⟨g12, D, dc, rfl, hr2, hv3.mono fun _ _ h => h.2, bD⟩
    case rest =>
      obtain ⟨g12, D, dc, rfl, hrow, hv, hb3⟩ := hcut
      rename World => wc
      have hpu3 : p.heap.size ≤ u2.heap.size := HB2.out.size
      have HB3 : Hid (Below p.heap.size p wc) := Lib.hid (HB2.out.trans (hb3.mono hpu3))
      have hpc : p.heap.size ≤ wc.heap.size := HB3.out.size
      have HT3 : Hid (TGRow wc w2.heap.size E) := Lib.hid (Whole.below HT2.out hb3 (by omega))
      obtain ⟨L1, hL1, hS1, hB1⟩ := HMC.out
      have hL1l : L1.length = a.macs.length := by rw [← hL1, List.length_map]
      obtain ⟨X, hX⟩ : ∃ X : MeM, X = ⟨⟨K, m, E⟩, D, dc⟩ := ⟨_, rfl⟩
      have hXm : m.length ≤ 4096 := by omega
      have hXok : mok X := by rw [hX]; exact ⟨hK, hEl, by show m.length ≤ 5000; omega⟩
      have hXe : X.e = ⟨K, m, E⟩ := by rw [hX]
      have hv' : Bytes wc (fun b => p.heap.size ≤ b) (.slice X.A X.e.msg.length X.c) X.e.msg := by rw [hX]; exact hv
      rw [← hX] at hrow
      obtain ⟨W5, hW5⟩ : ∃ x, x = (wc.alloc (.cells (mcl X).toArray 90)).alloc (.cells #[.slice Am a.macs.length cm, .slice (some ⟨wc.heap.size, 0, none⟩) 1 1] 29) := ⟨_, rfl⟩
      have hb5 : Below wc.heap.size wc W5 := by rw [hW5]; exact ((Below.refl _ _).alloc (Nat.le_refl _) _).alloc (by simp) _
      have hx1 : Whole W5 wc.heap.size 90 (mcl X).toArray := by rw [hW5]; exact (Whole.here _ _ _).alloc _
      have hx2 : Whole W5 (wc.heap.size + 1) 29 #[.slice Am a.macs.length cm, .slice (some ⟨wc.heap.size, 0, none⟩) 1 1] := by rw [hW5]; exact Whole.at_ _ _ _ _ (by simp)
      have HB5 : Hid (Below p.heap.size p W5) := Lib.hid (HB3.out.trans (hb5.mono hpc))
      have hcl := concatm (wc.heap.size + 1) Am (some ⟨wc.heap.size, 0, none⟩) cm 1 L1 [X] Q _ W5 (by rw [hL1l]; exact hx2.cell 0) (hx2.cell 1) (hS1.below (HB.out.trans (HB5.out.mono (by omega))) (Nat.le_refl _)) (seq_one hx1 rfl hXok) (by simp) (by have := HLN.out; simp only [List.length_singleton]; omega)
      have HROW := Lib.hid hrow
      have HBC := Lib.hid hb5
      have hcs : wc.heap.size ≤ W5.heap.size := hb5.size
      have hw2c : w2.heap.size < wc.heap.size := Whole.lt HT3.out
      have HV := Lib.hid (hv'.below hb5 (Nat.le_refl _))
      obtain ⟨c0, c33, c34, c35⟩ := ALRow.cells (Whole.below HR.out HB3.out (by omega))
      have HL1 := Lib.hid hL1
      have HB1 := Lib.hid hB1
      have HOK : Hid (∀ x ∈ L1 ++ [X], mok x) := Lib.hid fun x hx => by
        rcases List.mem_append.1 hx with h | h
        · exact hS1.2.2.2.1 x h
        · rw [List.mem_singleton.1 h]; exact hXok
      have hp5 : p.heap.size ≤ W5.heap.size := HB5.out.size
      have HXE := Lib.hid hXe
      clear c0 c33 c35 hL1 hB1 hS1 hL1l hX hXok hXe hv hv' hrow hb5 hx1 hx2 hXm hb3
      go_wp2_with (first
        | (with_reducible refine wpList_load_mac rfl _ rfl rfl HROW.out (mcl_size _) ?_)
        | (with_reducible refine wpList_buildSlice_mac rfl _ rfl wc.heap.size rfl _ rfl rfl ?_))
      rw [← hW5]
      clear hW5
      refine hcl.mono ?_
      rintro e w4 ⟨v', rfl, ho, hb4⟩
      obtain ⟨A5, c5, rfl, hS5⟩ := OwnS.seq ho HOK.out
      obtain ⟨n5, hn5⟩ : ∃ n, n = (L1 ++ [X]).length := ⟨_, rfl⟩
      rw [← hn5]
      have HN5 := Lib.hid hn5
      have HB4 : Hid (Below p.heap.size p w4) := Lib.hid (HB5.out.trans (hb4.mono hp5))
      have HS5 := Lib.hid (hS5.mono (Q' := fun g => p.heap.size ≤ g) fun g _ h => Nat.le_trans hp5 h)
      have HV4 := Lib.hid (HV.out.below hb4 (Nat.le_refl _))
      have hp4 : p.heap.size ≤ w4.heap.size := HB4.out.size
      have hr4 := Whole.below HR.out HB4.out (by omega)
      have HR4 := Lib.hid hr4
      obtain ⟨d0, d33, d34, d35⟩ := ALRow.cells hr4
      have f34 := ALRow.frees hr4 34
      have HT4 : Hid (TGRow w4 w2.heap.size E) := Lib.hid (Whole.below (Whole.below HT3.out HBC.out (by omega)) hb4 (by omega))
      clear hcl c34 ho hn5 hS5 hr4 d0 d33 d35 hb4
      go_upto_region 11 with fail
      obtain ⟨u5, hu⟩ : ∃ x, x = w4.setCell ⟨w.heap.size, 34, none⟩ (.slice A5 n5 c5) := ⟨_, rfl⟩
      have hru : ALRow u5.drew w.heap.size a.free a.seed a.fresh (.slice A5 n5 c5) (.slice Ab a.boxes.length cb) := by rw [hu]; exact Whole.drew (ALRow.set34 HR4.out _)
      have h6u : Whole u5.drew (w.heap.size + 1 + 1) 32 zar := by rw [hu]; exact Whole.drew (Whole.far (Whole.below H6.out HB4.out (by omega)) (by show _ ≠ w.heap.size; omega) _)
      have h7u : Whole u5.drew (w.heap.size + 1 + 1 + 1) 28 ztr := by rw [hu]; exact Whole.drew (Whole.far (Whole.below H7.out HB4.out (by omega)) (by show _ ≠ w.heap.size; omega) _)
      have htu : TGRow u5.drew w2.heap.size E := by rw [hu]; exact Whole.drew (Whole.far HT4.out (by show _ ≠ w.heap.size; omega) _)
      have bbu : Below w.heap.size w u5.drew := by rw [hu]; exact ((HB.out.trans (HB4.out.mono (by omega))).setCell (p := ⟨w.heap.size, 34, none⟩) (Nat.le_refl _) _).drew
      have kp0 : ∀ b, p.heap.size ≤ b → u5.drew.heap[b]? = w4.heap[b]? := by rw [hu]; exact fun b hb => heap_setCell_other w4 ⟨w.heap.size, 34, none⟩ b _ (by show b ≠ w.heap.size; omega)
      have sz0 : w4.heap.size ≤ u5.drew.heap.size := by rw [hu]; exact ((Below.refl 0 w4).setCell (p := ⟨w.heap.size, 34, none⟩) (Nat.zero_le _) _).size
      rw [← hu]
      clear hu d34 f34
      refine wp_region_held_drew (S := fun W => W.rangeAt w.heap.size 0 (alcl a.free a.seed a.fresh (.slice A5 n5 c5) (.slice Ab a.boxes.length cb)) ∧ W.rangeAt w2.heap.size 0 ((E).map byt)) (by kernel_rfl) (⟨Whole.range hru, TGRow.range htu⟩) (fun hHeld => ?_)
      apply wpT (i := 0) rfl (by kernel_rfl)
      case hQ => exact fun _ _ _ h => h
      case hS => exact hHeld
      case hy => exact yieldsIf_load_mid (by rfl) 32 _ rfl w.heap.size (0) rfl (alcl a.free a.seed a.fresh (.slice A5 n5 c5) (.slice Ab a.boxes.length cb)) _ (fun w hS => hS.1) Tryd.underlying32 rfl (by rw [algSize, alcl_length])
      (try simp only [sq])
      apply wpT (i := 1) rfl (by kernel_rfl)
      case hQ => exact fun _ _ _ h => h
      case hS => exact hHeld
      case hy => exact yieldsIf_load_mid (by rfl) 28 _ rfl w2.heap.size (0) rfl ((E).map byt) _ (fun w hS => hS.2) Tryd.underlying28 rfl (by rw [tagSize, tag_len (hEl)])
      (try simp only [sq])
      refine wpAnyH_ready (rs := [2]) (by kernel_rfl) (by simp) ?_
      refine AllReadyH.cons rfl (fun KK hKK => ?_) AllReadyH.nil
      (try simp only [sq])
      obtain ⟨X1, hX1⟩ : ∃ x, x = u5.drew.setRow (w.heap.size + 1 + 1) ((alcl a.free a.seed a.fresh (.slice A5 n5 c5) (.slice Ab a.boxes.length cb)).toArray) := ⟨_, rfl⟩
      have hsX1 : ALRow X1 w.heap.size a.free a.seed a.fresh (.slice A5 n5 c5) (.slice Ab a.boxes.length cb) := by rw [hX1]; exact Whole.setRow_far hru (by omega) _
      have e1 : Whole X1 (w.heap.size + 1 + 1) 32 (alc a.free a.seed a.fresh (.slice A5 n5 c5) (.slice Ab a.boxes.length cb)) := by rw [hX1]; exact Whole.setRow h6u _
      have h7X1 : Whole X1 (w.heap.size + 1 + 1 + 1) 28 ztr := by rw [hX1]; exact Whole.setRow_far h7u (by omega) _
      have bbX1 : Below w.heap.size w X1 := by rw [hX1]; exact below_setRow bbu (by omega) _
      have htX1 : TGRow X1 w2.heap.size (E) := by rw [hX1]; exact Whole.setRow_far htu (by omega) _
      have kpX1 : ∀ b, p.heap.size ≤ b → X1.heap[b]? = w4.heap[b]? := by rw [hX1]; exact fun b hb => (setRow_other _ _ b _ (by omega)).trans (kp0 b hb)
      have szX1 : w4.heap.size ≤ X1.heap.size := by rw [hX1]; exact Nat.le_trans sz0 (below_setRow (B := 0) (Below.refl 0 _) (Nat.zero_le _) _).size
      rw [if_pos (by kernel_rfl)]
      refine wp_store_row 32 _ _ rfl (w.heap.size + 1 + 1) _ rfl rfl 32 _ h6u (by rw [algSize, List.size_toArray, alcl_length]) (by rw [zar_size, List.size_toArray, alcl_length]) (alc_one _ _ _ _ _ _ _ _ _) ?_
      rw [← hX1]
      clear hX1
      refine hKK.out _ _ (⟨Whole.range hsX1, TGRow.range htX1⟩) (fun hHeld => ?_)
      clear hKK KK
      (try simp only [sq])
      refine wpAnyH_ready (rs := [3]) (by kernel_rfl) (by simp) ?_
      refine AllReadyH.cons rfl (fun KK hKK => ?_) AllReadyH.nil
      (try simp only [sq])
      have e1o := e1
      clear e1
      obtain ⟨X2, hX2⟩ : ∃ x, x = X1.setRow (w.heap.size + 1 + 1 + 1) (((E).map byt).toArray) := ⟨_, rfl⟩
      have hsX2 : ALRow X2 w.heap.size a.free a.seed a.fresh (.slice A5 n5 c5) (.slice Ab a.boxes.length cb) := by rw [hX2]; exact Whole.setRow_far hsX1 (by omega) _
      have e1 : Whole X2 (w.heap.size + 1 + 1) 32 (alc a.free a.seed a.fresh (.slice A5 n5 c5) (.slice Ab a.boxes.length cb)) := by rw [hX2]; exact Whole.setRow_far e1o (by omega) _
      have e2 : TGRow X2 (w.heap.size + 1 + 1 + 1) (E) := by rw [hX2]; exact Whole.setRow h7X1 _
      have bbX2 : Below w.heap.size w X2 := by rw [hX2]; exact below_setRow bbX1 (by omega) _
      have htX2 : TGRow X2 w2.heap.size (E) := by rw [hX2]; exact Whole.setRow_far htX1 (by omega) _
      have kpX2 : ∀ b, p.heap.size ≤ b → X2.heap[b]? = w4.heap[b]? := by rw [hX2]; exact fun b hb => (setRow_other _ _ b _ (by omega)).trans (kpX1 b hb)
      have szX2 : w4.heap.size ≤ X2.heap.size := by rw [hX2]; exact Nat.le_trans szX1 (below_setRow (B := 0) (Below.refl 0 _) (Nat.zero_le _) _).size
      rw [if_pos (by kernel_rfl)]
      refine wp_store_row 28 _ _ rfl (w.heap.size + 1 + 1 + 1) _ rfl rfl 28 _ h7X1 (by rw [tagSize, tag_size (hEl)]) (by rw [ztr_size, tag_size (hEl)]) (tag_one _) ?_
      rw [← hX2]
      clear hX2
      refine hKK.out _ _ (⟨Whole.range hsX2, TGRow.range htX2⟩) (fun hHeld => ?_)
      clear hKK KK
      (try simp only [sq])
      apply wpT (i := 4) rfl (by kernel_rfl)
      case hQ => exact fun _ _ _ h => h
      case hS => exact hHeld
      case hy => (refine Or.inl ⟨by rfl, ?_⟩; intro w hSw; (try go_split_ands); go_simp; (try with_reducible rfl))
      (try simp only [sq])
      refine wpAnyH_done (by kernel_rfl) ?_ _
      go_wp2_with fail
      have hbf := bbX2
      refine bodyPost_ret (results_alg3 Tryd.results12 _ rfl rfl _ rfl (alc_size _ _ _ _ _) (tag_size (hEl)) e1 e2) rfl ?_
      show AlgR _ _ _ R ∧ _
      rw [HRR.out]
      refine ⟨⟨_, rfl, ?_⟩, hbf⟩
      rw [HN5.out]
      have h := alv_more (a := a) (X := X) HL1.out (fun x hx => ((HB1.out x hx).below hbf (Nat.le_refl _)).mono fun _ _ h => .inl h) ((HS5.out.keep szX2 fun g _ hq => kpX2 g hq).mono fun g _ h => (by omega : w.heap.size ≤ g)) ((HV4.out.keep fun g _ hq => kpX2 g hq).mono fun g _ h => (by omega : w.heap.size ≤ g)) (HBX.out.below hbf (Nat.le_refl _)) HA.out HLN.out
      rw [HXE.out] at h
      exact h
end Go.Proofs.YtiikhjifjdpgdaaDoor
namespace Go.Proofs.YtiikhjifjdpgdaaDoor
open Go Go.RowKit Sh Leaf

def MadeS (w' : World) (Q : Nat → Prop) (e : Ending) (r : Alg × List B8 × Int) : Prop := ∃ y : MdM, y.a = r.1 ∧ y.T = r.2.1 ∧ e = .returned (.tuple #[.agg (mdl y).toArray, .int .i64 r.2.2]) ∧ AlV w' Q (.agg (mal y).toArray) y.a
theorem results_made {fn : Func} {p q : Tmp} {w : World} {g : Nat} (h : fn.results = #[.cell p 134, .tmp q]) (tmps : Array Value) (hp : tmps.getD p undef = .pointer (some ⟨g, 0, none⟩)) (x : Value) (hq : tmps.getD q undef = x) {cs : Array Value} (h8 : cs.size = 68) (hg : Whole w g 134 cs) :
    (results fn tmps).run Tryd.prog w = .ok (.tuple #[.agg cs, x]) w := by
  have hp' : tmps[p]?.getD undef = .pointer (some ⟨g, 0, none⟩) := by simpa using hp
  have hq' : tmps[q]?.getD undef = x := by simpa using hq
  simp [results, h, hp', hq', asAddr, run_loadVar_row w g 134 134 _ (0, 0) _ hg Tryd.underlying134 rfl (by rw [madeSize, h8])]
set_option linter.unusedSimpArgs false in
set_option linter.unusedVariables false in
set_option maxRecDepth 100000 in
set_option maxHeartbeats 8000000 in
theorem cnode1 {w : World} {Q Q2 : Nat → Prop} {x : MdM} {B : Option Addr} {d : Nat} {m : List B8} (hx : AlV w Q (.agg (mal x).toArray) x.a) (hlen : x.a.macs.length < 1000) (hK : x.T.length = 32) (hm : Bytes w Q2 (.slice B m.length d) m) (hml : m.length ≤ 100000) (hT : Tables w) :
    Calls Tryd.prog 83 #[.agg (mdl x).toArray, .slice B m.length d] w fun e w' => MadeS w' (fun g => Q g ∨ w.heap.size ≤ g) e (aMac x.a x.T m) ∧ Below w.heap.size w w' := by
  obtain ⟨p, hp⟩ : ∃ p, p = (w.alloc (.cells (mdl x).toArray 134)).alloc (.cells Tryd.zeroCells134 134) := ⟨_, rfl⟩
  have hr : Whole p w.heap.size 134 (mdl x).toArray := by rw [hp]; exact (Whole.here _ _ _).alloc _
  have hz : Whole p (w.heap.size + 1) 134 Tryd.zeroCells134 := by rw [hp]; exact Whole.at_ _ _ _ _ (by simp)
  have hb : Below w.heap.size w p := by rw [hp]; exact ((Below.refl _ _).alloc (Nat.le_refl _) _).alloc (by simp) _
  have hps : w.heap.size + 1 < p.heap.size := hz.lt
  have hmp := hm.below hb (Nat.le_refl _)
  have hxp := (hx.mono (Q' := fun g => Q g ∧ g < w.heap.size) fun g hg hq => ⟨hq, hg⟩).below hb (Nat.le_refl _)
  have hTp := hT.below (Nat.le_refl _) hb
  have HRA := Lib.hid (mdl_alg (Whole.range hr))
  have HRT : Hid (p.rangeAt w.heap.size 36 (x.T.map byt)) := Lib.hid (by have h := mdl_tag (Whole.range hr); rw [p32_eq hK, Nat.zero_add] at h; exact h)
  have hsA : (Tryd.prog.info? 32).map (·.size) = some (mal x).length := by rw [mal_len]; exact algSize
  have hsT : (Tryd.prog.info? 28).map (·.size) = some (x.T.map byt).length := by rw [List.length_map, hK]; exact tagSize
  have HSA := Lib.hid hsA
  have HST := Lib.hid hsT
  clear hsA hsT hr
  have H1 : Hid (Below w.heap.size w p) := Lib.hid (hb)
  have H2 : Hid (Whole p (w.heap.size + 1) 134 Tryd.zeroCells134) := Lib.hid (hz)
  have hcl := pmac hxp hlen hK hmp hml hTp
  obtain ⟨R, hR⟩ : ∃ R, R = aMac x.a x.T m := ⟨_, rfl⟩
  have hlT : R.2.1.length = 32 := by rw [hR]; exact AlV.mac_len hx _ _
  rw [← hR] at hcl
  obtain ⟨b, T, eb⟩ := R
  have HEb := Lib.hid hR
  clear hR
  dsimp only [AlgR] at hcl hlT
  clear hb hz hmp hxp hTp hx hm hml hT
  go_enter Tryd.func83, Tryd.ntmps83
  go_upto_region 1 with fail
  rw [← hp]
  clear hp
  go_wp2_with (first
    | (with_reducible refine wpList_load_mid rfl 32 _ rfl w.heap.size 0 rfl _ _ HRA.out Tryd.underlying32 rfl HSA.out ?_)
    | (with_reducible refine wpList_load_mid rfl 28 _ rfl w.heap.size 36 rfl _ _ HRT.out Tryd.underlying28 rfl HST.out ?_))
  refine hcl.mono ?_
  rintro e u1 ⟨⟨v, rfl, hx1⟩, hbu⟩
  clear hcl
  obtain ⟨Amb, cmb, Abb, cbb, rfl, hM, hBx, hA⟩ := hx1
  have hsu1 : p.heap.size ≤ u1.heap.size := hbu.size
  have HV : Hid (AlV u1 (fun g => (Q g ∧ g < w.heap.size) ∨ p.heap.size ≤ g) (.agg (alc b.free b.seed b.fresh (.slice Amb b.macs.length cmb) (.slice Abb b.boxes.length cbb))) b) := Lib.hid ⟨Amb, cmb, Abb, cbb, rfl, hM, hBx, hA⟩
  have H3 : Hid (Below w.heap.size w u1) := Lib.hid ((Below.trans H1.out (Below.mono hbu (Below.size H1.out))))
  have H4 : Hid (Whole u1 (w.heap.size + 1) 134 Tryd.zeroCells134) := Lib.hid ((Whole.below H2.out hbu (Whole.lt H2.out)))
  clear H1 H2
  clear hM hBx hA hbu
  have H5 : Hid (Below u1.heap.size u1 u1) := Lib.hid (Below.refl _ _)
  have ks0 : ∀ z0 z1 : Array Value, Whole ((u1.alloc (.cells z0 32)).alloc (.cells z1 28)) u1.heap.size 32 z0 := fun _ _ => (Whole.alloc (Whole.here _ _ _) _)
  have ks1 : ∀ z0 z1 : Array Value, Whole (((u1.alloc (.cells z0 32)).alloc (.cells z1 28)).setRow u1.heap.size (alc b.free b.seed b.fresh (.slice Amb b.macs.length cmb) (.slice Abb b.boxes.length cbb))) (u1.heap.size + 1) 28 z1 := fun _ _ => (Whole.setRow_far (Whole.at_ _ _ _ _ (by simp)) (by omega) _)
  go_upto_region 2 with (first
    | (with_reducible refine wpList_store_alg rfl _ _ rfl (g := u1.heap.size) rfl rfl (ks0 _ _) rfl (alc_size _ _ _ _ _) (alc_one _ _ _ _ _ _ _ _ _) ?_)
    | (with_reducible refine wpList_store_tag rfl _ _ rfl (g := (u1.heap.size + 1)) rfl rfl (ks1 _ _) rfl (tag_size hlT) (tag_one _) ?_))
  clear ks0 ks1
  rw [ztr_lit]
  rw [zar_lit]
  obtain ⟨q1, hq⟩ : ∃ q, q = ((((u1.alloc (.cells zar 32)).alloc (.cells ztr 28)).setRow u1.heap.size (alc b.free b.seed b.fresh (.slice Amb b.macs.length cmb) (.slice Abb b.boxes.length cbb))).setRow (u1.heap.size + 1) (T.map byt).toArray) := ⟨_, rfl⟩
  rw [← hq]
  have hsq1 : u1.heap.size + 2 ≤ q1.heap.size := by rw [hq]; simp
  have H6 : Hid (Below w.heap.size w q1) := Lib.hid (by rw [hq]; exact (below_setRow (below_setRow (Below.trans H3.out (Below.mono (Below.alloc (Below.alloc (Below.refl _ _) (Nat.le_refl _) _) (by simp) _) (Below.size H3.out))) (by omega) _) (by omega) _))
  have H7 : Hid (Whole q1 (w.heap.size + 1) 134 Tryd.zeroCells134) := Lib.hid (by rw [hq]; exact (Whole.setRow_far (Whole.setRow_far (Whole.below H4.out (Below.alloc (Below.alloc (Below.refl _ _) (Nat.le_refl _) _) (by simp) _) (Whole.lt H4.out)) (by omega) _) (by omega) _))
  have H8 : Hid (Below u1.heap.size u1 q1) := Lib.hid (by rw [hq]; exact (below_setRow (below_setRow (Below.trans H5.out (Below.mono (Below.alloc (Below.alloc (Below.refl _ _) (Nat.le_refl _) _) (by simp) _) (Below.size H5.out))) (by omega) _) (by omega) _))
  clear H3 H4 H5
  have H9 : Hid (ALRow q1 u1.heap.size b.free b.seed b.fresh (.slice Amb b.macs.length cmb) (.slice Abb b.boxes.length cbb)) := Lib.hid (by rw [hq]; exact (Whole.setRow_far (Whole.setRow (Whole.alloc (Whole.here _ _ _) _) _) (by omega) _))
  have H10 : Hid (TGRow q1 (u1.heap.size + 1) T) := Lib.hid (by rw [hq]; exact (Whole.setRow (Whole.setRow_far (Whole.at_ _ _ _ _ (by simp)) (by omega) _) _))
  clear hq
  have hrz := H7.out
  go_wp2_with (first
    | (with_reducible refine wpList_build_made rfl _ _ rfl hlT rfl rfl ?_)
    | (with_reducible refine wpList_store_made rfl _ _ rfl (g := w.heap.size + 1) rfl rfl hrz zmd_size (mdl_size _) (mdl_all _) ?_)
    | (with_reducible refine wpList_load_alg rfl _ rfl rfl H9.out (alc_size _ _ _ _ _) ?_) | (with_reducible refine wpList_load_tag rfl _ rfl rfl H10.out (tag_size hlT) ?_))
  refine bodyPost_ret (results_made Tryd.results83 _ rfl _ rfl (mdl_size ⟨b, Amb, cmb, Abb, cbb, T⟩) (Whole.setRow hrz _)) rfl ?_
  rw [← HEb.out]
  refine ⟨⟨⟨b, Amb, cmb, Abb, cbb, T⟩, rfl, rfl, rfl, ?_⟩, below_setRow H6.out (by omega) _⟩
  exact ((HV.out.below H8.out (Nat.le_refl _)).keep (by simp) fun g _ hq => setRow_other _ _ _ _ (by rcases hq with hq | hq <;> omega)).mono fun g _ hq => hq.elim (fun h => .inl h.1) (fun h => .inr (by omega))
end Go.Proofs.YtiikhjifjdpgdaaDoor
namespace Go.Proofs.YtiikhjifjdpgdaaDoor
open Go Go.RowKit Sh Leaf

theorem cown_setRow {w : World} {base n s B : Nat} {e : TypeId} {v : Value} {xs : List Value} (h : w.ownsRow base e s v n xs) (hB : B < base) (cs : Array Value) : (w.setRow B cs).ownsRow base e s v n xs := by
  refine ⟨h.1, ?_⟩
  rcases h.2 with h2 | ⟨b, cap, cur, hv, hbb, hh, r⟩
  · exact .inl h2
  · exact .inr ⟨b, cap, cur, hv, hbb, by rw [setRow_other _ _ _ _ (by omega)]; exact hh, r⟩
def ChR (w' : World) (base : Nat) (Q : Nat → Prop) (e : Ending) (a : Alg) (K m1 m2 : List B8) : Prop :=
  ((aMac a K m1).2.2 ≠ 0 ∧ e = .returned (.tuple #[.slice none 0 0, .int .i64 (aMac a K m1).2.2])) ∨
  ((aMac a K m1).2.2 = 0 ∧ (aMac (aMac a K m1).1 (aMac a K m1).2.1 m2).2.2 ≠ 0 ∧ e = .returned (.tuple #[.slice none 0 0, .int .i64 (aMac (aMac a K m1).1 (aMac a K m1).2.1 m2).2.2])) ∨
  ((aMac a K m1).2.2 = 0 ∧ (aMac (aMac a K m1).1 (aMac a K m1).2.1 m2).2.2 = 0 ∧ ∃ (A : Option Addr) (c : Nat) (y z : MdM), e = .returned (.tuple #[.slice A 2 c, .int .i64 0]) ∧ Seq mdl (fun _ => True) w' (fun g => base ≤ g) A c [y, z] ∧ y.T = (aMac a K m1).2.1 ∧ y.T.length = 32 ∧ z.a = (aMac (aMac a K m1).1 (aMac a K m1).2.1 m2).1 ∧ AlV w' Q (.agg (mal z).toArray) z.a)
set_option linter.unusedSimpArgs false in
set_option linter.unusedVariables false in
set_option maxRecDepth 100000 in
set_option maxHeartbeats 8000000 in
theorem cchain {w : World} {Q Q1 Q2 : Nat → Prop} {x : MdM} {G : Nat} {B1 B2 : Option Addr} {d1 d2 : Nat} {m1 m2 : List B8} (hx : AlV w Q (.agg (mal x).toArray) x.a) (hlen : x.a.macs.length < 900) (hK : x.T.length = 32) (hc1 : w.cell? ⟨G, 0, none⟩ = some (.slice B1 m1.length d1)) (hc2 : w.cell? ⟨G, 1, none⟩ = some (.slice B2 m2.length d2))
    (hm1 : Bytes w Q1 (.slice B1 m1.length d1) m1) (hm2 : Bytes w Q2 (.slice B2 m2.length d2) m2) (hl1 : m1.length ≤ 100000) (hl2 : m2.length ≤ 100000) (hT : Tables w) :
    Calls Tryd.prog 82 #[.agg (mdl x).toArray, .slice (some ⟨G, 0, none⟩) 2 2, .func (.func 83) #[] #[]] w fun e w' => ChR w' w.heap.size (fun g => Q g ∨ w.heap.size ≤ g) e x.a x.T m1 m2 ∧ Below w.heap.size w w' := by
  have hgl : G < w.heap.size := block_lt_of_cell hc1
  obtain ⟨p, hp⟩ : ∃ p, p = w.alloc (.cells (mdl x).toArray 134) := ⟨_, rfl⟩
  have hr : Whole p w.heap.size 134 (mdl x).toArray := by rw [hp]; exact Whole.here _ _ _
  have hb : Below w.heap.size w p := by rw [hp]; exact (Below.refl _ _).alloc (Nat.le_refl _) _
  have hps : w.heap.size < p.heap.size := hr.lt
  have hps1 : p.heap.size ≤ w.heap.size + 1 := by rw [hp]; simp
  have hc1p : p.cell? ⟨G, 0, none⟩ = some (.slice B1 m1.length d1) := (hb.cell (p := ⟨G, 0, none⟩) hgl).trans hc1
  have hc2p : p.cell? ⟨G, 1, none⟩ = some (.slice B2 m2.length d2) := (hb.cell (p := ⟨G, 1, none⟩) hgl).trans hc2
  obtain ⟨n1, hn1⟩ : ∃ n, n = m1.length := ⟨_, rfl⟩
  obtain ⟨n2, hn2⟩ : ∃ n, n = m2.length := ⟨_, rfl⟩
  have hxp := (hx.mono (Q' := fun g => Q g ∧ g < w.heap.size) fun g hg hq => ⟨hq, hg⟩).below hb (Nat.le_refl _)
  have hlT1 : (aMac x.a x.T m1).2.1.length = 32 := AlV.mac_len hx _ _
  have hma := mac_le x.a x.T m1
  have HM1 := Lib.hid ((hm1.mono (Q' := fun g => g < w.heap.size) fun g hg _ => hg).below hb (Nat.le_refl _))
  have HM2 := Lib.hid ((hm2.mono (Q' := fun g => g < w.heap.size) fun g hg _ => hg).below hb (Nat.le_refl _))
  have HC2 := Lib.hid hc2p
  have HT0 := Lib.hid hT
  have HTT := Lib.hid (hT.below (Nat.le_refl _) hb)
  have HR := Lib.hid hr
  have HB := Lib.hid hb
  have HL := Lib.hid (And.intro hl1 hl2)
  have hcl := cnode1 hxp (by omega) hK HM1.out hl1 HTT.out
  obtain ⟨R, hR⟩ : ∃ R, R = aMac x.a x.T m1 := ⟨_, rfl⟩
  have HP : Hid (∀ w' e base QQ, ChR w' base QQ e x.a x.T m1 m2 ↔ ((R.2.2 ≠ 0 ∧ e = .returned (.tuple #[.slice none 0 0, .int .i64 R.2.2])) ∨ (R.2.2 = 0 ∧ (aMac R.1 R.2.1 m2).2.2 ≠ 0 ∧ e = .returned (.tuple #[.slice none 0 0, .int .i64 (aMac R.1 R.2.1 m2).2.2])) ∨ (R.2.2 = 0 ∧ (aMac R.1 R.2.1 m2).2.2 = 0 ∧ ∃ (A : Option Addr) (c : Nat) (y z : MdM), e = .returned (.tuple #[.slice A 2 c, .int .i64 0]) ∧ Seq mdl (fun _ => True) w' (fun g => base ≤ g) A c [y, z] ∧ y.T = R.2.1 ∧ y.T.length = 32 ∧ z.a = (aMac R.1 R.2.1 m2).1 ∧ AlV w' QQ (.agg (mal z).toArray) z.a))) := Lib.hid fun w' e base QQ => by rw [hR]; exact Iff.rfl
  rw [← hR] at hcl hlT1 hma
  clear hR
  rw [← hn1] at hc1p hcl
  obtain ⟨b, T, eb⟩ := R
  dsimp only at hlT1 hma
  have HLT := Lib.hid hlT1
  have HNN := Lib.hid (And.intro hn1 hn2)
  have HPS := Lib.hid hps1
  clear hr hb hc1 hc2 hc2p hm1 hm2 hl1 hl2 hT hx hxp hn1 hn2 hlT1 hps1
  go_enter Tryd.func82, Tryd.ntmps82
  go_upto_region 1 with fail
  rw [← hp]
  clear hp
  go_wp2_with fail
  refine wp_loop_rounds 3 ?_
  rw [rounds_succ]
  go_wp2_with (with_reducible refine wpList_load_made rfl _ rfl rfl HR.out (mdl_size _) ?_)
  refine hcl.mono ?_
  rintro e u1 ⟨⟨y, hya, hyT, rfl, hy⟩, hbu⟩
  dsimp only at hya hyT
  clear hcl hc1p HM1
  have hsu1 : p.heap.size ≤ u1.heap.size := hbu.size
  obtain ⟨v1, hv1⟩ : ∃ v, v = (u1.alloc (.cells Tryd.zeroCells134 134)).setRow u1.heap.size (mdl y).toArray := ⟨_, rfl⟩
  have hz1 : Whole (u1.alloc (.cells Tryd.zeroCells134 134)) u1.heap.size 134 Tryd.zeroCells134 := Whole.here _ _ _
  have hr1 : Whole v1 u1.heap.size 134 (mdl y).toArray := by rw [hv1]; exact Whole.setRow hz1 _
  have hbv1 : Below u1.heap.size u1 v1 := by rw [hv1]; exact below_setRow ((Below.refl _ _).alloc (Nat.le_refl _) _) (Nat.le_refl _) _
  have hsv1 : u1.heap.size < v1.heap.size := hr1.lt
  have HZ1 := Lib.hid hz1
  have HV1 := Lib.hid hv1
  have HY := Lib.hid ((hy.mono (Q' := fun g => ((Q g ∧ g < w.heap.size) ∨ p.heap.size ≤ g) ∧ g < u1.heap.size) fun g hg hq => ⟨hq, hg⟩).below hbv1 (Nat.le_refl _))
  have hpv := hbu.trans (hbv1.mono hsu1)
  have HR0 := Lib.hid (Whole.below HR.out hpv hps)
  have HR1 := Lib.hid hr1
  have HM2b := Lib.hid (HM2.out.below hpv (Nat.le_refl _))
  have HC2b : Hid (v1.cell? ⟨G, 1, none⟩ = some (.slice B2 n2 d2)) := Lib.hid (by rw [HNN.out.2]; exact (hpv.cell (p := ⟨G, 1, none⟩) (by show G < p.heap.size; omega)).trans HC2.out)
  have HT1 := Lib.hid (HTT.out.below (Nat.le_refl _) hpv)
  have HB1 := Lib.hid (HB.out.trans (hpv.mono (by omega)))
  have HYY := Lib.hid (And.intro hya hyT)
  clear hz1 hr1 hbv1 hv1 hy hya hyT hbu hpv HTT HM2 HC2 HR HB
  go_upto_region 6 with (with_reducible refine wpList_store_made rfl _ _ rfl (g := u1.heap.size) rfl rfl HZ1.out zmd_size (mdl_size _) (mdl_all _) ?_)
  rw [← HV1.out]
  clear HV1 HZ1
  by_cases he : eb = 0
  case neg =>
    have HE := Lib.hid he
    have hne : (eb != 0) = true := by simpa using he
    go_wp2_with fail
    go_ret2
    exact ⟨(HP.out _ _ _ _).2 (.inl ⟨HE.out, rfl⟩), HB1.out⟩
  subst he
  have HQ1 : Hid (Seq mdl (fun _ => True) (v1.alloc (.cells (mdl y).toArray 134)) (fun b => b = v1.heap.size) (some ⟨v1.heap.size, 0, none⟩) 1 [y]) := Lib.hid (seq_one (heap_alloc_new v1 _) rfl trivial)
  have HO0 : Hid (OwnS mdl 68 134 (v1.alloc (.cells (mdl y).toArray 134)) v1.heap.size (.slice none 0 0) ([] : List MdM)) := Lib.hid (owns_nil _ _)
  go_upto_region 9 with (first
    | (with_reducible refine wpList_load_made rfl _ rfl rfl HR1.out (mdl_size _) ?_)
    | (with_reducible refine wpList_buildSlice_made rfl _ rfl v1.heap.size rfl _ rfl rfl ?_)
    | (at_builtin; go_must (refine wpList_append_seq rfl _ _ 130 134 zmade 128 rfl Tryd.underlying130 madeInfo zmade_size (by omega) (by omega) mdl_len mdl_one v1.heap.size (.slice none 0 0) [] rfl HO0.out (fun b => b = v1.heap.size) _ 1 1 [y] rfl rfl HQ1.out (by simp) (by simp) ?_; intro r1 w2 ho2 hb2 hg2)))
  rw [List.nil_append] at ho2
  have hv2 : Below v1.heap.size v1 w2 := ((Below.refl _ _).alloc (Nat.le_refl _) _).trans hb2
  have hsw2 : v1.heap.size ≤ w2.heap.size := hv2.size
  obtain ⟨w3, hw3⟩ : ∃ v, v = w2.setRow w.heap.size (mdl y).toArray := ⟨_, rfl⟩
  have HR0b := Lib.hid (Whole.below HR0.out hv2 HR0.out.lt)
  have HR1b := Lib.hid (Whole.below HR1.out hv2 HR1.out.lt)
  have hb23 : Below w.heap.size w2 w3 := by rw [hw3]; exact below_setRow (Below.refl _ _) (Nat.le_refl _) _
  have hv3 : Below w.heap.size v1 w3 := (hv2.mono (by omega)).trans hb23
  have HR3 : Hid (Whole w3 w.heap.size 134 (mdl y).toArray) := Lib.hid (by rw [hw3]; exact Whole.setRow HR0b.out _)
  have HO3 : Hid (OwnS mdl 68 134 w3 v1.heap.size r1 [y]) := Lib.hid (by rw [hw3]; exact cown_setRow ho2 (by omega) _)
  have hsw3 : w2.heap.size ≤ w3.heap.size := by rw [hw3]; simp
  have HY3 : Hid (AlV w3 (fun g => ((Q g ∧ g < w.heap.size) ∨ p.heap.size ≤ g) ∧ g < u1.heap.size) (.agg (mal y).toArray) y.a) := Lib.hid (by rw [hw3]; exact (HY.out.below hv2 (Nat.le_refl _)).keep (by simp) fun g _ hq => setRow_other _ _ _ _ (by omega))
  have HM3 : Hid (Bytes w3 (fun g => g < w.heap.size) (.slice B2 m2.length d2) m2) := Lib.hid (by rw [hw3]; exact (HM2b.out.below hv2 (Nat.le_refl _)).setRow (fun g hg => Nat.ne_of_lt hg) _)
  have HW3 := Lib.hid hw3
  clear hw3 hb2 hg2 ho2 hv2 hb23 HQ1 HO0 HR0 HR1 HM2b HY
  have hgl1 : G < v1.heap.size := by omega
  have HC3 : Hid (w3.cell? ⟨G, 1, none⟩ = some (.slice B2 n2 d2)) := Lib.hid ((hv3.cell (p := ⟨G, 1, none⟩) hgl).trans HC2b.out)
  have HB3 := Lib.hid (HB1.out.trans hv3)
  have HT3 := Lib.hid (HT0.out.below (Nat.le_refl _) HB3.out)
  have hlo : ∀ k, r1.ownBlock = some k → v1.heap.size ≤ k ∧ k < w3.heap.size := fun k hk => HO3.out.lt k hk
  have hyT32 : y.T.length = 32 := by rw [HYY.out.2]; exact HLT.out
  have hcl := cnode1 (x := y) HY3.out (by rw [HYY.out.1]; omega) hyT32 HM3.out HL.out.2 HT3.out
  rw [HYY.out.1, HYY.out.2] at hcl
  obtain ⟨R, hR⟩ : ∃ R, R = aMac b T m2 := ⟨_, rfl⟩
  have HP2 : Hid (∀ w' e base QQ, (R.2.2 ≠ 0 ∧ e = .returned (.tuple #[.slice none 0 0, .int .i64 R.2.2])) ∨ (R.2.2 = 0 ∧ ∃ (A : Option Addr) (c : Nat) (y z : MdM), e = .returned (.tuple #[.slice A 2 c, .int .i64 0]) ∧ Seq mdl (fun _ => True) w' (fun g => base ≤ g) A c [y, z] ∧ y.T = T ∧ y.T.length = 32 ∧ z.a = R.1 ∧ AlV w' QQ (.agg (mal z).toArray) z.a) → ChR w' base QQ e x.a x.T m1 m2) := Lib.hid fun w' e base QQ h => (HP.out w' e base QQ).2 (by
    rw [← hR]
    rcases h with h | h
    · exact .inr (.inl ⟨rfl, h.1, h.2⟩)
    · exact .inr (.inr ⟨rfl, h.1, h.2⟩))
  rw [← hR] at hcl
  clear hR HP
  obtain ⟨b', T', eb⟩ := R
  rw [← HNN.out.2] at hcl
  have HHO := Lib.hid hlo
  have HY32 := Lib.hid hyT32
  have hc3 := HC3.out
  clear hlo hyT32 HC2b hv3 HT1 HB1
  go_upto_region 10 with (first
    | (with_reducible refine wpList_load_made rfl _ rfl rfl HR1b.out (mdl_size _) ?_)
    | (with_reducible refine wpList_store_made rfl _ _ rfl (g := w.heap.size) rfl rfl HR0b.out (mdl_size _) (mdl_size _) (mdl_all _) ?_))
  rw [← HW3.out]
  clear HW3
  go_wp2_with fail
  rw [rounds_succ]
  go_wp2_with (with_reducible refine wpList_load_made rfl _ rfl rfl HR3.out (mdl_size _) ?_)
  refine hcl.mono ?_
  rintro e u4 ⟨⟨z, hza, hzT, rfl, hz⟩, hbu⟩
  dsimp only at hza hzT
  clear hcl hc3 HM3
  have hsu4 : w3.heap.size ≤ u4.heap.size := hbu.size
  obtain ⟨v4, hv4⟩ : ∃ v, v = (u4.alloc (.cells Tryd.zeroCells134 134)).setRow u4.heap.size (mdl z).toArray := ⟨_, rfl⟩
  have hz1 : Whole (u4.alloc (.cells Tryd.zeroCells134 134)) u4.heap.size 134 Tryd.zeroCells134 := Whole.here _ _ _
  have hr4 : Whole v4 u4.heap.size 134 (mdl z).toArray := by rw [hv4]; exact Whole.setRow hz1 _
  have hbv4 : Below u4.heap.size u4 v4 := by rw [hv4]; exact below_setRow ((Below.refl _ _).alloc (Nat.le_refl _) _) (Nat.le_refl _) _
  have hsv4 : u4.heap.size < v4.heap.size := hr4.lt
  have HZ1 := Lib.hid hz1
  have HV4 := Lib.hid hv4
  have HZ := Lib.hid (hz.below hbv4 (Nat.le_refl _))
  have hpv := hbu.trans (hbv4.mono hsu4)
  have HR0 := Lib.hid (Whole.below HR3.out hpv HR3.out.lt)
  have HR4 := Lib.hid hr4
  have HO4 := Lib.hid (own_below HO3.out hpv (Nat.le_refl _))
  have HB4 := Lib.hid (HB3.out.trans (hpv.mono (by omega)))
  have HZA := Lib.hid hza
  clear hz1 hr4 hbv4 hv4 hz hza hzT hbu hpv HR3 HO3 HB3 HY3 HT3 HC3
  go_upto_region 6 with (with_reducible refine wpList_store_made rfl _ _ rfl (g := u4.heap.size) rfl rfl HZ1.out zmd_size (mdl_size _) (mdl_all _) ?_)
  rw [← HV4.out]
  clear HV4 HZ1
  by_cases he : eb = 0
  case neg =>
    have HE := Lib.hid he
    have hne : (eb != 0) = true := by simpa using he
    go_wp2_with fail
    go_ret2
    exact ⟨HP2.out _ _ _ _ (.inl ⟨HE.out, rfl⟩), HB4.out⟩
  subst he
  have HQ1 : Hid (Seq mdl (fun _ => True) (v4.alloc (.cells (mdl z).toArray 134)) (fun b => b = v4.heap.size) (some ⟨v4.heap.size, 0, none⟩) 1 [z]) := Lib.hid (seq_one (heap_alloc_new v4 _) rfl trivial)
  have HO5 : Hid (OwnS mdl 68 134 (v4.alloc (.cells (mdl z).toArray 134)) v1.heap.size r1 [y]) := Lib.hid (own_below HO4.out ((Below.refl _ _).alloc (Nat.le_refl _) _) (Nat.le_refl _))
  have hv14 : v1.heap.size ≤ (v4.alloc (.cells (mdl z).toArray 134)).heap.size := by simp; omega
  have HV14 := Lib.hid hv14
  clear hv14
  go_upto_region 9 with (first
    | (with_reducible refine wpList_load_made rfl _ rfl rfl HR4.out (mdl_size _) ?_)
    | (with_reducible refine wpList_buildSlice_made rfl _ rfl v4.heap.size rfl _ rfl rfl ?_)
    | (at_builtin; go_must (refine wpList_append_seq rfl _ _ 130 134 zmade 128 rfl Tryd.underlying130 madeInfo zmade_size (by omega) (by omega) mdl_len mdl_one v1.heap.size r1 [y] rfl HO5.out (fun b => b = v4.heap.size) _ 1 1 [z] rfl rfl HQ1.out (by simp) HV14.out ?_; intro r2 w5 ho5 hb5 hg5)))
  have hbA : Below v4.heap.size v4 (v4.alloc (.cells (mdl z).toArray 134)) := (Below.refl _ _).alloc (Nat.le_refl _) _
  have hv5 : Below v1.heap.size v4 w5 := (hbA.mono (by omega)).trans hb5
  have hsw5 : v4.heap.size ≤ w5.heap.size := Nat.le_trans (by simp) hb5.size
  have HZ5 : Hid (AlV w5 (fun g => (((Q g ∧ g < w.heap.size) ∨ p.heap.size ≤ g) ∧ g < u1.heap.size) ∨ w3.heap.size ≤ g) (.agg (mal z).toArray) z.a) := Lib.hid ((HZ.out.below hbA (Nat.le_refl _)).keep hb5.size fun g hg hq => hg5.block g hg fun hgo => by
    have := HHO.out g hgo.symm
    omega)
  have HR4b : Hid (Whole w5 u4.heap.size 134 (mdl z).toArray) := Lib.hid (by
    refine (hg5.block _ (by simp; omega) fun hgo => ?_).trans (Whole.alloc HR4.out _)
    have := HHO.out _ hgo.symm
    omega)
  have HR0b := Lib.hid (Whole.below HR0.out hv5 (by omega))
  obtain ⟨w6, hw6⟩ : ∃ v, v = w5.setRow w.heap.size (mdl z).toArray := ⟨_, rfl⟩
  have HB6 : Hid (Below w.heap.size w w6) := Lib.hid (by rw [hw6]; exact below_setRow (HB4.out.trans (hv5.mono (by omega))) (Nat.le_refl _) _)
  have HO6 : Hid (OwnS mdl 68 134 w6 v1.heap.size r2 ([y] ++ [z])) := Lib.hid (by rw [hw6]; exact cown_setRow ho5 (by omega) _)
  have HZ6 : Hid (AlV w6 (fun g => Q g ∨ w.heap.size ≤ g) (.agg (mal z).toArray) z.a) := Lib.hid (by rw [hw6]; exact (HZ5.out.keep (by simp) fun g _ hq => setRow_other _ _ _ _ (by omega)).mono fun g _ hq => by rcases hq with ⟨hq | hq, _⟩ | hq; exact .inl hq.1; exact .inr (by omega); exact .inr (by omega))
  have HW6 := Lib.hid hw6
  clear hw6 hbA hv5 hb5 hg5 ho5 HZ5 HZ HR0 HR4 HO4 HO5 HQ1 HB4
  go_upto_region 10 with (first
    | (with_reducible refine wpList_load_made rfl _ rfl rfl HR4b.out (mdl_size _) ?_)
    | (with_reducible refine wpList_store_made rfl _ _ rfl (g := w.heap.size) rfl rfl HR0b.out (mdl_size _) (mdl_size _) (mdl_all _) ?_))
  rw [← HW6.out]
  clear HW6
  go_wp2_with fail
  rw [rounds_succ]
  obtain ⟨A, c, rfl, hS⟩ := OwnS.seq (ok := fun _ => True) HO6.out (fun _ _ => trivial)
  have HS := Lib.hid (hS.mono (Q' := fun g => w.heap.size ≤ g) fun g _ hg => by omega)
  clear hS HO6
  go_wp2_with fail
  go_ret2
  exact ⟨HP2.out _ _ _ _ (.inr ⟨trivial, A, c, y, z, rfl, HS.out, HYY.out.2, HY32.out, HZA.out, HZ6.out⟩), HB6.out⟩
end Go.Proofs.YtiikhjifjdpgdaaDoor
namespace Go.Proofs.YtiikhjifjdpgdaaDoor
open Go Go.RowKit Sh Leaf

theorem mintw_cells : (#[.int .u8 109, .int .u8 105, .int .u8 110, .int .u8 116] : Array Value) = (mintw.map byt).toArray := by
  unfold mintw
  simp only [List.map_cons, List.map_nil, byt, bv]
  rfl
theorem cavw_cells : (#[.int .u8 99, .int .u8 97, .int .u8 118, .int .u8 101, .int .u8 97, .int .u8 116] : Array Value) = (cavw.map byt).toArray := by
  unfold cavw
  simp only [List.map_cons, List.map_nil, byt, bv]
  rfl
theorem nodew_cells : (#[.int .u8 110, .int .u8 111, .int .u8 100, .int .u8 101] : Array Value) = (nodew.map byt).toArray := by
  unfold nodew
  simp only [List.map_cons, List.map_nil, byt, bv]
  rfl
set_option linter.unusedSimpArgs false in
set_option maxRecDepth 20000 in
set_option maxHeartbeats 2000000 in
theorem cmintm (n : Nat) (hn : n ≤ 281474976710656) (w : World) :
    Calls Tryd.prog 55 #[.int .i64 (n : Int)] w fun e w' => (∃ B d, e = .returned (.slice B (mintm n).length d) ∧ Bytes w' (fun b => w.heap.size ≤ b) (.slice B (mintm n).length d) (mintm n)) ∧ Below w.heap.size w w' := by
  have hcv := conv_const #[.int .u8 109, .int .u8 105, .int .u8 110, .int .u8 116] 4 4 w
  have hby := con_bytes w mintw #[.int .u8 109, .int .u8 105, .int .u8 110, .int .u8 116] 4 mintw_cells rfl (by omega) 4 rfl
  have hbm := con_below w #[.int .u8 109, .int .u8 105, .int .u8 110, .int .u8 116] 5 (4, 5)
  obtain ⟨M, hM⟩ : ∃ M, M = mintm n := ⟨_, rfl⟩
  have hcl := append_ok _ mintw _ n _ hby (by decide) hn
  rw [show mintw ++ enc n = M from hM.symm] at hcl
  rw [← hM]
  have HM := Lib.hid hbm
  clear hby hbm hM
  go_enter Tryd.func55, Tryd.ntmps55
  go_wp2_with fail
  refine hcl.mono ?_
  rintro e w1 ⟨v, rfl, hown, hb⟩
  clear hcl hcv
  have h1 := (Bytes.of_own hown).mono (Q' := fun b => w.heap.size ≤ b) fun b _ hb => Nat.le_trans HM.out.size hb
  obtain ⟨B, d, rfl, -⟩ := id h1
  have H1 := Lib.hid h1
  have HB := Lib.hid (HM.out.trans (hb.mono HM.out.size))
  clear hown hb h1
  go_wp2_with fail
  go_ret
  exact ⟨⟨B, d, rfl, H1.out⟩, HB.out⟩
end Go.Proofs.YtiikhjifjdpgdaaDoor
namespace Go.Proofs.YtiikhjifjdpgdaaDoor
open Go Go.RowKit Sh Leaf

theorem mal_all (x : MdM) : (mal x).toArray.all (·.oneCell') = true := alc_one _ _ _ _ _ _ _ _ _
set_option linter.unusedSimpArgs false in
set_option linter.unusedVariables false in
set_option maxRecDepth 100000 in
set_option maxHeartbeats 8000000 in
theorem cnode {w : World} {Q Q2 : Nat → Prop} {x : Value} {B : Option Addr} {d : Nat} {a : Alg} {K m : List B8} (hx : AlV w Q x a) (hlen : a.macs.length < 900) (hK : K.length = 32) (hm : Bytes w Q2 (.slice B m.length d) m) (hml : m.length ≤ 100000) (hT : Tables w) :
    Calls Tryd.prog 54 #[x, .agg (K.map byt).toArray, .slice B m.length d] w fun e w' => AlgR w' (fun g => Q g ∨ w.heap.size ≤ g) e (aNode a K m) ∧ Below w.heap.size w w' := by
  obtain ⟨Am, cm, Ab, cb, rfl, hM, hBx, hA⟩ := id hx
  obtain ⟨p, hp⟩ : ∃ p, p = (((w.alloc (.cells (alc a.free a.seed a.fresh (.slice Am a.macs.length cm) (.slice Ab a.boxes.length cb)) 32)).alloc (.cells (K.map byt).toArray 28)).alloc (.cells zar 32)).alloc (.cells ztr 28) := ⟨_, rfl⟩
  have hr : ALRow p w.heap.size a.free a.seed a.fresh (.slice Am a.macs.length cm) (.slice Ab a.boxes.length cb) := by rw [hp]; exact (((Whole.here _ _ _).alloc _).alloc _).alloc _
  have hk : TGRow p (w.heap.size + 1) K := by rw [hp]; exact ((Whole.at_ _ _ _ _ (by simp)).alloc _).alloc _
  have h6 : Whole p (w.heap.size + 1 + 1) 32 zar := by rw [hp]; exact (Whole.at_ _ _ _ _ (by simp)).alloc _
  have h7 : Whole p (w.heap.size + 1 + 1 + 1) 28 ztr := by rw [hp]; exact Whole.at_ _ _ _ _ (by simp)
  have hb : Below w.heap.size w p := by rw [hp]; exact ((((Below.refl _ _).alloc (Nat.le_refl _) _).alloc (by simp) _).alloc (by simp; omega) _).alloc (by simp; omega) _
  have hps : (w.heap.size + 1 + 1 + 1) < p.heap.size := h7.lt
  obtain ⟨nm, hnm⟩ : ∃ n, n = m.length := ⟨_, rfl⟩
  obtain ⟨p1, hp1⟩ : ∃ q, q = p.alloc (.cells #[.int .u8 110, .int .u8 111, .int .u8 100, .int .u8 101] 5 (4, 5)) := ⟨_, rfl⟩
  obtain ⟨p2, hp2⟩ : ∃ q, q = p1.alloc (.cells #[.slice B nm d, .slice (some ⟨p.heap.size, 0, none⟩) 4 4] 23) := ⟨_, rfl⟩
  have hcv := conv_const #[.int .u8 110, .int .u8 111, .int .u8 100, .int .u8 101] 4 4 p
  have hby : Bytes p1 (fun b => p.heap.size ≤ b) (.slice (some ⟨p.heap.size, 0, none⟩) 4 4) nodew := by rw [hp1]; exact con_bytes p nodew #[.int .u8 110, .int .u8 111, .int .u8 100, .int .u8 101] 4 nodew_cells rfl (by omega) 4 rfl
  have hb1 : Below p.heap.size p p1 := by rw [hp1]; exact con_below p _ _ _
  have hs1 : p.heap.size < p1.heap.size := by rw [hp1]; simp
  have hl2 : Whole p2 p1.heap.size 23 #[.slice B nm d, .slice (some ⟨p.heap.size, 0, none⟩) 4 4] := by rw [hp2]; exact Whole.here _ _ _
  have hb2 : Below p1.heap.size p1 p2 := by rw [hp2]; exact (Below.refl _ _).alloc (Nat.le_refl _) _
  have hs2 : p1.heap.size < p2.heap.size := hl2.lt
  have hb12 := hb1.trans (hb2.mono (Nat.le_of_lt hs1))
  have hbw := hb.trans (hb12.mono (by omega))
  have HX2 := (hx.mono (Q' := fun g => Q g ∧ g < w.heap.size) fun g hg hq => ⟨hq, hg⟩).below hbw (Nat.le_refl _)
  have hcl := cchain (w := p2) (x := ⟨a, Am, cm, Ab, cb, K⟩) (G := p1.heap.size) (B1 := B) (d1 := d) (m1 := m) (B2 := some ⟨p.heap.size, 0, none⟩) (d2 := 4) (m2 := nodew) HX2 hlen hK (by rw [← hnm]; exact hl2.cell 0) (hl2.cell 1) (hm.below hbw (Nat.le_refl _)) (hby.below hb2 (Nat.le_refl _)) hml (by decide) (hT.below (Nat.le_refl _) hbw)
  have hl32 : (aMac a K m).2.1.length = 32 := AlV.mac_len hx _ _
  have HR := Lib.hid (Whole.below hr hb12 hr.lt)
  have HK := Lib.hid (Whole.below hk hb12 hk.lt)
  have H6 := Lib.hid (Whole.below h6 hb12 h6.lt)
  have H7 := Lib.hid (Whole.below h7 hb12 h7.lt)
  have HB := Lib.hid hbw
  have HP1 := Lib.hid hp1
  have HP2 := Lib.hid hp2
  dsimp only at hcl
  rw [show p1.heap.size = p.heap.size + 1 by rw [hp1]; simp] at hcl
  have HN : Hid (∀ R, R = aNode a K m → ((aMac a K m).2.2 ≠ 0 → R = (zalg, ztag, (aMac a K m).2.2)) ∧ ((aMac a K m).2.2 = 0 → (aMac (aMac a K m).1 (aMac a K m).2.1 nodew).2.2 ≠ 0 → R = (zalg, ztag, (aMac (aMac a K m).1 (aMac a K m).2.1 nodew).2.2)) ∧ ((aMac a K m).2.2 = 0 → (aMac (aMac a K m).1 (aMac a K m).2.1 nodew).2.2 = 0 → R = ((aMac (aMac a K m).1 (aMac a K m).2.1 nodew).1, (aMac a K m).2.1, 0))) := Lib.hid fun R hR => by
    unfold aNode at hR
    refine ⟨fun h => by rw [hR, if_pos h], fun h h' => by rw [hR, if_neg (by rw [h]; simp), if_pos h'], fun h h' => by rw [hR, if_neg (by rw [h]; simp), if_neg (by rw [h']; simp)]⟩
  obtain ⟨R, hR⟩ : ∃ R, R = aNode a K m := ⟨_, rfl⟩
  have hN := HN.out R hR
  rw [← hR]
  have HL32 := Lib.hid hl32
  have HNN := Lib.hid hN
  rw [← hnm]
  clear HN hN hR hl32 hp1 hp2 hr hk h6 h7 hb hb1 hb2 hb12 hbw HX2 hl2 hby hx hm hml hT hnm hM hBx hA
  go_enter Tryd.func54, Tryd.ntmps54
  go_upto_region 1 with fail
  rw [zar_lit, ztr_lit, ← hp]
  clear hp
  go_upto_region 2 with fail
  rw [← HP1.out]
  rw [← HP2.out]
  clear HP1 HP2 hcv
  go_wp2_with (first
    | (with_reducible refine wpList_load_alg rfl _ rfl rfl HR.out (alc_size _ _ _ _ _) ?_)
    | (with_reducible refine wpList_load_tag rfl _ rfl rfl HK.out (tag_size hK) ?_)
    | (with_reducible refine wpList_build_made rfl _ _ rfl hK rfl rfl ?_))
  refine hcl.mono ?_
  rintro e w1 ⟨hx, hbu⟩
  clear hcl
  have hsw1 : p2.heap.size ≤ w1.heap.size := hbu.size
  have H6b := Lib.hid (Whole.below H6.out hbu H6.out.lt)
  have H7b := Lib.hid (Whole.below H7.out hbu H7.out.lt)
  have HB1 := Lib.hid (HB.out.trans (hbu.mono (by omega)))
  clear HR HK H6 H7 HB hbu
  rcases hx with ⟨he, rfl⟩ | ⟨he, hf, rfl⟩ | ⟨he, hf, A, c, y, z, rfl, hS, hyT, hy32, hza, hz⟩
  · skip
    have HRR := Lib.hid (HNN.out.1 he)
    obtain ⟨eb, heb⟩ : ∃ e, e = (aMac a K m).2.2 := ⟨_, rfl⟩
    rw [← heb] at he HRR ⊢
    have hne : (eb != 0) = true := by simpa using he
    clear heb he HNN HL32
    go_wp2_with (first
      | (with_reducible refine wpList_store_alg rfl _ _ rfl (g := (w.heap.size + 1 + 1)) rfl rfl H6b.out zar_size rfl (by with_unfolding_all rfl) ?_)
      | (with_reducible refine wpList_store_tag rfl _ _ rfl (g := (w.heap.size + 1 + 1 + 1)) rfl rfl (Whole.setRow_far H7b.out (by omega) _) ztr_size rfl (by with_unfolding_all rfl) ?_))
    rw [zar_lit, ztr_lit]
    have e1 := Whole.setRow_far (Whole.setRow H6b.out zar) (g' := (w.heap.size + 1 + 1 + 1)) (by omega) ztr
    have e2 := Whole.setRow (Whole.setRow_far H7b.out (g' := (w.heap.size + 1 + 1)) (by omega) zar) ztr
    refine bodyPost_ret (results_alg3 Tryd.results54 _ rfl rfl _ rfl zar_size ztr_size e1 e2) rfl ?_
    show AlgR _ _ _ R ∧ _
    rw [HRR.out]
    exact ⟨⟨_, by rw [ztr_eq]; rfl, alv_zero _ _⟩, below_setRow (below_setRow HB1.out (by omega) _) (by omega) _⟩
  · skip
    have HRR := Lib.hid (HNN.out.2.1 he hf)
    obtain ⟨eb, heb⟩ : ∃ e, e = (aMac (aMac a K m).1 (aMac a K m).2.1 nodew).2.2 := ⟨_, rfl⟩
    rw [← heb] at hf HRR ⊢
    have hne : (eb != 0) = true := by simpa using hf
    clear heb he hf HNN HL32
    go_wp2_with (first
      | (with_reducible refine wpList_store_alg rfl _ _ rfl (g := (w.heap.size + 1 + 1)) rfl rfl H6b.out zar_size rfl (by with_unfolding_all rfl) ?_)
      | (with_reducible refine wpList_store_tag rfl _ _ rfl (g := (w.heap.size + 1 + 1 + 1)) rfl rfl (Whole.setRow_far H7b.out (by omega) _) ztr_size rfl (by with_unfolding_all rfl) ?_))
    rw [zar_lit, ztr_lit]
    have e1 := Whole.setRow_far (Whole.setRow H6b.out zar) (g' := (w.heap.size + 1 + 1 + 1)) (by omega) ztr
    have e2 := Whole.setRow (Whole.setRow_far H7b.out (g' := (w.heap.size + 1 + 1)) (by omega) zar) ztr
    refine bodyPost_ret (results_alg3 Tryd.results54 _ rfl rfl _ rfl zar_size ztr_size e1 e2) rfl ?_
    show AlgR _ _ _ R ∧ _
    rw [HRR.out]
    exact ⟨⟨_, by rw [ztr_eq]; rfl, alv_zero _ _⟩, below_setRow (below_setRow HB1.out (by omega) _) (by omega) _⟩
  · skip
    have HRR := Lib.hid (HNN.out.2.2 he hf)
    rw [← hza, ← hyT] at HRR
    obtain ⟨g, o, rfl, hgl, hgs, hcy⟩ := Seq.get mdl_len hS 0 y rfl
    obtain ⟨g2, o2, hge, -, -, hcz⟩ := Seq.get mdl_len hS 1 z rfl
    injection hge with hge
    injection hge with hg1 hg2
    subst hg1 hg2
    have hrz : w1.rangeAt g (o + 68) (mal z) := mdl_alg (o := o + 68) (x := z) fun i v hv => hcz i v hv
    have hry : w1.rangeAt g (o + 36) (y.T.map byt) := by
      have h := mdl_tag (w := w1) (g := g) (o := o) (x := y) fun i v hv => by have := hcy i v hv; rwa [Nat.zero_mul, Nat.add_zero] at this
      rw [p32_eq hy32] at h
      exact h
    have hg7 : (w.heap.size + 1 + 1 + 1) < g := by omega
    have hu0 : Below w.heap.size w w1.drew := HB1.out.drew
    have H6d : Whole w1.drew (w.heap.size + 1 + 1) 32 zar := Whole.drew H6b.out
    have H7d : Whole w1.drew (w.heap.size + 1 + 1 + 1) 28 ztr := Whole.drew H7b.out
    have hsz : (Tryd.prog.info? 32).map (·.size) = some (mal z).length := by rw [mal_len]; exact algSize
    have hst : (Tryd.prog.info? 28).map (·.size) = some (y.T.map byt).length := by rw [List.length_map, hy32]; exact tagSize
    have HZ0 : Hid (AlV w1.drew (fun g => (Q g ∧ g < w.heap.size) ∨ p2.heap.size ≤ g) (.agg (mal z).toArray) z.a) := Lib.hid (hz.below (Below.drew (Below.refl _ _)) (Nat.le_refl _))
    have hlz : alc z.a.free z.a.seed z.a.fresh (.slice z.Am z.a.macs.length z.cm) (.slice z.Ab z.a.boxes.length z.cb) = (mal z).toArray := rfl
    clear hS hcy hcz he hf hza hyT hz HNN HL32
    go_upto_region 5 with fail
    refine wp_region_held_drew (S := fun W => W.rangeAt g (o + 68) (mal z) ∧ W.rangeAt g (o + 36) (y.T.map byt)) (by kernel_rfl) (⟨hrz, hry⟩) (fun hHeld => ?_)
    apply wpT (i := 0) rfl (by kernel_rfl)
    case hQ => exact fun _ _ _ h => h
    case hS => exact hHeld
    case hy => (refine Or.inl ⟨by rfl, ?_⟩; intro w hSw; (try go_split_ands); go_simp; (try with_reducible rfl))
    (try simp only [sq])
    apply wpT (i := 1) rfl (by kernel_rfl)
    case hQ => exact fun _ _ _ h => h
    case hS => exact hHeld
    case hy => (refine Or.inl ⟨by rfl, ?_⟩; intro w hSw; (try go_split_ands); go_simp; (try with_reducible rfl))
    (try simp only [sq])
    apply wpT (i := 2) rfl (by kernel_rfl)
    case hQ => exact fun _ _ _ h => h
    case hS => exact hHeld
    case hy => (refine Or.inl ⟨by rfl, ?_⟩; intro w hSw; (try go_split_ands); go_simp; (try with_reducible rfl))
    (try simp only [sq])
    apply wpT (i := 3) rfl (by kernel_rfl)
    case hQ => exact fun _ _ _ h => h
    case hS => exact hHeld
    case hy => exact yieldsIf_load_mid (by rfl) 32 _ rfl g (o + 68) rfl (mal z) _ (fun w hS => hS.1) Tryd.underlying32 rfl hsz
    (try simp only [sq])
    apply wpT (i := 4) rfl (by kernel_rfl)
    case hQ => exact fun _ _ _ h => h
    case hS => exact hHeld
    case hy => (refine Or.inl ⟨by rfl, ?_⟩; intro w hSw; (try go_split_ands); go_simp; (try with_reducible rfl))
    (try simp only [sq])
    apply wpT (i := 5) rfl (by kernel_rfl)
    case hQ => exact fun _ _ _ h => h
    case hS => exact hHeld
    case hy => (refine Or.inl ⟨by rfl, ?_⟩; intro w hSw; (try go_split_ands); go_simp; (try with_reducible rfl))
    (try simp only [sq])
    apply wpT (i := 6) rfl (by kernel_rfl)
    case hQ => exact fun _ _ _ h => h
    case hS => exact hHeld
    case hy => (refine Or.inl ⟨by rfl, ?_⟩; intro w hSw; (try go_split_ands); go_simp; (try with_reducible rfl))
    (try simp only [sq])
    apply wpT (i := 7) rfl (by kernel_rfl)
    case hQ => exact fun _ _ _ h => h
    case hS => exact hHeld
    case hy => exact yieldsIf_load_mid (by rfl) 28 _ rfl g (o + 36) rfl (y.T.map byt) _ (fun w hS => hS.2) Tryd.underlying28 rfl hst
    (try simp only [sq])
    refine wpAnyH_ready (rs := [8]) (by kernel_rfl) (by simp) ?_
    refine AllReadyH.cons rfl (fun KK hKK => ?_) AllReadyH.nil
    obtain ⟨X1, hX1⟩ : ∃ x, x = w1.drew.setRow (w.heap.size + 1 + 1) (mal z).toArray := ⟨_, rfl⟩
    have e1 : Whole X1 (w.heap.size + 1 + 1) 32 (mal z).toArray := by rw [hX1]; exact Whole.setRow H6d _
    have h7X1 : Whole X1 (w.heap.size + 1 + 1 + 1) 28 ztr := by rw [hX1]; exact Whole.setRow_far H7d (by omega) _
    have hbX1 : Below w.heap.size w X1 := by rw [hX1]; exact below_setRow hu0 (by omega) _
    have hzX1 : Hid (AlV X1 (fun g => (Q g ∧ g < w.heap.size) ∨ p2.heap.size ≤ g) (.agg (mal z).toArray) z.a) := Lib.hid (by rw [hX1]; exact HZ0.out.keep (by simp) fun g _ hq => setRow_other _ _ _ _ (by omega))
    have k1X1 : X1.rangeAt g (o + 68) (mal z) := fun i v hv => by rw [hX1, cell_setRow_other _ _ _ _ (by show g ≠ (w.heap.size + 1 + 1); omega)]; exact hrz i v hv
    have k2X1 : X1.rangeAt g (o + 36) (y.T.map byt) := fun i v hv => by rw [hX1, cell_setRow_other _ _ _ _ (by show g ≠ (w.heap.size + 1 + 1); omega)]; exact hry i v hv
    rw [if_pos (by kernel_rfl)]
    refine wp_store_row 32 _ _ rfl (w.heap.size + 1 + 1) _ rfl rfl 32 _ H6d (by rw [algSize, List.size_toArray, mal_len]) (by rw [zar_size, List.size_toArray, mal_len]) (mal_all z) ?_
    rw [← hX1]
    clear hX1
    refine hKK.out _ _ (⟨k1X1, k2X1⟩) (fun hHeld => ?_)
    clear hKK KK
    (try simp only [sq])
    refine wpAnyH_ready (rs := [9]) (by kernel_rfl) (by simp) ?_
    refine AllReadyH.cons rfl (fun KK hKK => ?_) AllReadyH.nil
    obtain ⟨X2, hX2⟩ : ∃ x, x = X1.setRow (w.heap.size + 1 + 1 + 1) (y.T.map byt).toArray := ⟨_, rfl⟩
    have e1b : Whole X2 (w.heap.size + 1 + 1) 32 (mal z).toArray := by rw [hX2]; exact Whole.setRow_far e1 (by omega) _
    have e2 : TGRow X2 (w.heap.size + 1 + 1 + 1) y.T := by rw [hX2]; exact Whole.setRow h7X1 _
    have hbX2 : Below w.heap.size w X2 := by rw [hX2]; exact below_setRow hbX1 (by omega) _
    have hzX2 : Hid (AlV X2 (fun g => (Q g ∧ g < w.heap.size) ∨ p2.heap.size ≤ g) (.agg (mal z).toArray) z.a) := Lib.hid (by rw [hX2]; exact hzX1.out.keep (by simp) fun g _ hq => setRow_other _ _ _ _ (by omega))
    have k1X2 : X2.rangeAt g (o + 68) (mal z) := fun i v hv => by rw [hX2, cell_setRow_other _ _ _ _ (by show g ≠ (w.heap.size + 1 + 1 + 1); omega)]; exact k1X1 i v hv
    have k2X2 : X2.rangeAt g (o + 36) (y.T.map byt) := fun i v hv => by rw [hX2, cell_setRow_other _ _ _ _ (by show g ≠ (w.heap.size + 1 + 1 + 1); omega)]; exact k2X1 i v hv
    rw [if_pos (by kernel_rfl)]
    refine wp_store_row 28 _ _ rfl (w.heap.size + 1 + 1 + 1) _ rfl rfl 28 _ h7X1 (by rw [tagSize, tag_size hy32]) (by rw [ztr_size, tag_size hy32]) (tag_one _) ?_
    rw [← hX2]
    clear hX2
    refine hKK.out _ _ (⟨k1X2, k2X2⟩) (fun hHeld => ?_)
    clear hKK KK
    (try simp only [sq])
    apply wpT (i := 10) rfl (by kernel_rfl)
    case hQ => exact fun _ _ _ h => h
    case hS => exact hHeld
    case hy => (refine Or.inl ⟨by rfl, ?_⟩; intro w hSw; (try go_split_ands); go_simp; (try with_reducible rfl))
    (try simp only [sq])
    refine wpAnyH_done (by kernel_rfl) ?_ _
    go_wp2_with fail
    refine bodyPost_ret (results_alg3 Tryd.results54 _ rfl rfl _ rfl (by rw [List.size_toArray, mal_len]) (tag_size hy32) e1b e2) rfl ?_
    show AlgR _ _ _ R ∧ _
    rw [HRR.out]
    exact ⟨⟨_, rfl, hzX2.out.mono fun g _ hq => by rcases hq with hq | hq; exact .inl hq.1; exact .inr (by omega)⟩, hbX2⟩
end Go.Proofs.YtiikhjifjdpgdaaDoor
namespace Go.Proofs.YtiikhjifjdpgdaaDoor
open Go Go.RowKit Sh Leaf

theorem psl_cells {w : World} {g : Nat} {z s : Int} {vc : Value} {T : List B8} (h : Whole w g 51 (psl z s vc T).toArray) : w.cell? ⟨g, 0, none⟩ = some (.int .i64 z) ∧ w.cell? ⟨g, 1, none⟩ = some (.int .i64 s) ∧ w.cell? ⟨g, 2, none⟩ = some vc := ⟨by rw [Whole.cell h]; rfl, by rw [Whole.cell h]; rfl, by rw [Whole.cell h]; rfl⟩
theorem psl_tag {w : World} {g : Nat} {z s : Int} {vc : Value} {T : List B8} (hT : T.length = 32) (h : Whole w g 51 (psl z s vc T).toArray) : w.rangeAt g 3 (T.map byt) := fun i v hv => by
  rw [Whole.cell h, List.getElem?_toArray]
  unfold psl
  rw [p32_eq hT, show 3 + i = i + 1 + 1 + 1 by omega, List.getElem?_cons_succ, List.getElem?_cons_succ, List.getElem?_cons_succ]
  exact hv
theorem ptag_sz {T : List B8} (hT : T.length = 32) : (Tryd.prog.info? 28).map (·.size) = some (T.map byt).length := by rw [List.length_map, hT]; exact tagSize
theorem wpList_load_ptag {w : World} {g : Nat} {T : List B8} {ops : Array Oper} {rest : List Oper} {o : Oper} {a : Act} {Q : Exit → Act → World → Prop} (hgd : Region.wanted o (yielded ops a.tmps) = true) (x : Operand) (ho : o.op = .load 28 x)
    (hx : a.eval x = .pointer (some ⟨g, 3, none⟩)) (hT : T.length = 32) (hg : w.rangeAt g 3 (T.map byt)) (h : wpList Tryd.prog ops Q rest (a.put o.dst (tagv T)) w) : wpList Tryd.prog ops Q (o :: rest) a w :=
  wpList_load_wanted_at hgd 28 x ho g 3 hx (T.map byt) _ hg Tryd.underlying28 rfl (ptag_sz hT) h
end Go.Proofs.YtiikhjifjdpgdaaDoor
namespace Go.Proofs.YtiikhjifjdpgdaaDoor
open Go Go.RowKit Sh Leaf

set_option linter.unusedSimpArgs false in
set_option maxRecDepth 20000 in
set_option maxHeartbeats 2000000 in
theorem cismint (z s : Int) (w : World) : Calls Tryd.prog 53 #[.int .i64 z, .int .i64 s] w fun e w' => e = .returned (.bool (decide (minto z s))) ∧ w' = w := by
  by_cases h1 : 1 ≤ z
  · by_cases h2 : z ≤ 1000
    · by_cases h3 : 1 ≤ s
      · by_cases h4 : s ≤ 1073741824
        · have hd : decide (minto z s) = true := decide_eq_true ⟨h1, h2, h3, h4⟩
          rw [hd]
          clear hd
          go_enter Tryd.func53, Tryd.ntmps53
          go_wp2_with fail
          go_ret
          exact ⟨rfl, rfl⟩
        · have hd : decide (minto z s) = false := decide_eq_false fun h => h4 h.2.2.2
          rw [hd]
          clear hd
          go_enter Tryd.func53, Tryd.ntmps53
          go_wp2_with fail
          go_ret
          exact ⟨rfl, rfl⟩
      · have hd : decide (minto z s) = false := decide_eq_false fun h => h3 h.2.2.1
        rw [hd]
        clear hd
        go_enter Tryd.func53, Tryd.ntmps53
        go_wp2_with fail
        go_ret
        exact ⟨rfl, rfl⟩
    · have hd : decide (minto z s) = false := decide_eq_false fun h => h2 h.2.1
      rw [hd]
      clear hd
      go_enter Tryd.func53, Tryd.ntmps53
      go_wp2_with fail
      go_ret
      exact ⟨rfl, rfl⟩
  · have hd : decide (minto z s) = false := decide_eq_false fun h => h1 h.1
    rw [hd]
    clear hd
    go_enter Tryd.func53, Tryd.ntmps53
    go_wp2_with fail
    go_ret
    exact ⟨rfl, rfl⟩
end Go.Proofs.YtiikhjifjdpgdaaDoor
