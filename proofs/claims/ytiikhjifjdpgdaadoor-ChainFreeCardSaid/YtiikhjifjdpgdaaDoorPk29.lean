/-
  KPut
-/
import Derived.StillTailTactics
import Derived.Test.YtiikhjifjdpgdaaDoorKRely
import Derived.Test.YtiikhjifjdpgdaaDoorPk0
namespace Go.Proofs.YtiikhjifjdpgdaaDoor
open Go Go.RowKit

def dstOf (ops : Array Oper) (n : Nat) : Option Tmp := (ops[n]?).bind (·.dst)
def upd {α : Type} (v : Nat → α) (i : Nat) (x : α) : Nat → α := fun j => if j = i then x else v j
theorem upd_at {α : Type} (v : Nat → α) (i : Nat) (x : α) : upd v i x i = x := if_pos rfl
theorem upd_ne {α : Type} (v : Nat → α) {i j : Nat} (x : α) (h : j ≠ i) : upd v i x j = v j := if_neg h
def puts (ops : Array Oper) (v : Nat → Value) (l : Array Bool) (a : Act) : Nat → Act
  | 0 => a
  | n + 1 => if l.getD n false = true then (puts ops v l a n).put (dstOf ops n) (v n) else puts ops v l a n
def apartD (ops : Array Oper) : Bool := (List.range ops.size).all fun i => (List.range i).all fun j => (dstOf ops i).isNone || dstOf ops i != dstOf ops j
def noDst (ops : Array Oper) (t : Tmp) : Bool := (List.range ops.size).all fun i => dstOf ops i != some t
theorem no_dst {ops : Array Oper} {t : Tmp} (h : noDst ops t = true) (j : Nat) : dstOf ops j ≠ some t := by
  by_cases hi : j < ops.size
  · have h1 := List.all_eq_true.1 h j (List.mem_range.2 hi)
    simpa using h1
  · unfold dstOf
    rw [Array.getElem?_eq_none (by omega)]
    simp
theorem apart_lt {ops : Array Oper} (h : apartD ops = true) {i j : Nat} (hj : j < i) : dstOf ops i = none ∨ dstOf ops i ≠ dstOf ops j := by
  by_cases hi : i < ops.size
  · have h1 := List.all_eq_true.1 (List.all_eq_true.1 h i (List.mem_range.2 hi)) j (List.mem_range.2 hj)
    rw [Bool.or_eq_true] at h1
    rcases h1 with h1 | h1
    · exact .inl (Option.isNone_iff_eq_none.1 h1)
    · exact .inr (by simpa using h1)
  · left
    unfold dstOf
    rw [Array.getElem?_eq_none (by omega)]
    rfl
theorem put_comm (a : Act) {d e : Option Tmp} (x y : Value) (h : d = none ∨ d ≠ e) : (a.put d x).put e y = (a.put e y).put d x := by
  cases d with
  | none => rfl
  | some d =>
    cases e with
    | none => rfl
    | some e =>
      have : d ≠ e := by
        rcases h with h | h
        · cases h
        · intro q; exact h (by rw [q])
      unfold Act.put
      simp only
      rw [Array.setIfInBounds_comm _ _ this]
theorem put_size (a : Act) (d : Option Tmp) (x : Value) : (a.put d x).tmps.size = a.tmps.size := by
  cases d with
  | none => rfl
  | some d => unfold Act.put; simp
theorem puts_size (ops : Array Oper) (v : Nat → Value) (l : Array Bool) (a : Act) : ∀ n, (puts ops v l a n).tmps.size = a.tmps.size
  | 0 => rfl
  | n + 1 => by
    unfold puts
    split
    · rw [put_size, puts_size ops v l a n]
    · exact puts_size ops v l a n
theorem puts_later {ops : Array Oper} (v : Nat → Value) (l : Array Bool) (a : Act) (i : Nat) (x : Value) : ∀ n, n ≤ i → puts ops (upd v i x) (l.setIfInBounds i true) a n = puts ops v l a n
  | 0, _ => rfl
  | n + 1, h => by
    unfold puts
    rw [puts_later v l a i x n (by omega), getD_set_ne false (by omega), upd_ne _ _ (by omega)]
theorem set_here {l : Array Bool} {i : Nat} (hi : i < l.size) : (l.setIfInBounds i true).getD i false = true := by
  rw [Array.getD_eq_getD_getElem?, Array.getElem?_setIfInBounds_self, if_pos hi]; rfl
theorem puts_put {ops : Array Oper} (hd : apartD ops = true) (v : Nat → Value) {l : Array Bool} (a : Act) {i : Nat} (x : Value) (hl : l.getD i false = false) (hi : i < l.size) : ∀ n, i < n → (puts ops v l a n).put (dstOf ops i) x = puts ops (upd v i x) (l.setIfInBounds i true) a n
  | 0, h => by omega
  | n + 1, h => by
    by_cases hn : n = i
    · subst hn
      unfold puts
      rw [if_neg (by rw [hl]; simp), if_pos (set_here hi), upd_at, puts_later v l a n x n (Nat.le_refl _)]
    · have hlt : i < n := by omega
      unfold puts
      rw [getD_set_ne false (by omega), upd_ne _ _ hn]
      split
      · rw [put_comm _ _ _ (apart_lt hd hlt), puts_put hd v a x hl hi n hlt]
      · exact puts_put hd v a x hl hi n hlt
theorem put_eval_ne (a : Act) {d : Option Tmp} {t : Tmp} (x : Value) (h : d ≠ some t) : (a.put d x).eval (.tmp t) = a.eval (.tmp t) := by
  cases d with
  | none => rfl
  | some d =>
    have : d ≠ t := fun q => h (by rw [q])
    unfold Act.put Act.eval
    simp only [Array.getD_eq_getD_getElem?]
    rw [Array.getElem?_setIfInBounds_ne this]
theorem put_eval_at (a : Act) {t : Tmp} (x : Value) (h : t < a.tmps.size) : (a.put (some t) x).eval (.tmp t) = x := by
  unfold Act.put Act.eval
  simp only [Array.getD_eq_getD_getElem?]
  rw [Array.getElem?_setIfInBounds_self, if_pos h]
  rfl
theorem puts_eval {ops : Array Oper} (hd : apartD ops = true) (v : Nat → Value) {l : Array Bool} (a : Act) {i : Nat} {t : Tmp} (hl : l.getD i false = true) (ht : dstOf ops i = some t) (hs : t < a.tmps.size) : ∀ n, i < n → (puts ops v l a n).eval (.tmp t) = v i
  | 0, h => by omega
  | n + 1, h => by
    by_cases hn : n = i
    · subst hn
      unfold puts
      rw [if_pos hl, ht]
      exact put_eval_at _ _ (by rw [puts_size]; exact hs)
    · unfold puts
      have hlt : i < n := by omega
      split
      · rw [put_eval_ne, puts_eval hd v a hl ht hs n hlt]
        rcases apart_lt hd hlt with q | q
        · rw [q]; simp
        · rw [← ht]; exact q
      · exact puts_eval hd v a hl ht hs n hlt
theorem puts_eval_other {ops : Array Oper} (v : Nat → Value) {l : Array Bool} (a : Act) {t : Tmp} (ht : ∀ j, dstOf ops j ≠ some t) : ∀ n, (puts ops v l a n).eval (.tmp t) = a.eval (.tmp t)
  | 0 => rfl
  | n + 1 => by
    unfold puts
    split
    · rw [put_eval_ne _ _ (ht n), puts_eval_other v a ht n]
    · exact puts_eval_other v a ht n
def putAll (ops : Array Oper) (v : Nat → Value) (a : Act) : Nat → Act
  | 0 => a
  | n + 1 => (putAll ops v a n).put (dstOf ops n) (v n)
theorem puts_all {ops : Array Oper} (v : Nat → Value) {l : Array Bool} (a : Act) : ∀ n, (∀ i, i < n → l.getD i false = true) → puts ops v l a n = putAll ops v a n
  | 0, _ => rfl
  | n + 1, h => by
    unfold puts putAll
    rw [if_pos (h n (by omega)), puts_all v a n fun i hi => h i (by omega)]

theorem putAll_zero (ops : Array Oper) (v : Nat → Value) (a : Act) : putAll ops v a 0 = a := rfl
def Live (b : Nat → Option Nat) (l : Array Bool) (i : Nat) : Prop := l.getD i false = true ∧ ∀ k, b i = some k → l.getD k false = false
structure St (ops : Array Oper) (F : Nat → (Nat → Value) → (Nat → Prop) → World → Prop) (b z : Nat → Option Nat) (w0 : World) (l : Array Bool) (v : Nat → Value) (T : Nat → Nat → Prop) (w : World) : Prop where
  sz : l.size = ops.size
  low : Below 0 w0 w
  old : ∀ g, g < w0.heap.size → (∀ k, l.getD k false = true → z k ≠ some g) → w.heap[g]? = w0.heap[g]?
  f : ∀ i, Live b l i → F i v (T i) w
  t : ∀ i, Live b l i → ∀ g, T i g → (w0.heap.size ≤ g ∨ z i = some g) ∧ g < w.heap.size
  d : ∀ i j, Live b l i → Live b l j → i ≠ j → ∀ g, T i g → ¬ T j g
  c : ∀ i o, l.getD i false = true → ops[i]? = some o → ∀ e ∈ o.after, Region.binds .any e = true → l.getD e.on false = true
structure Gives (F : Nat → (Nat → Value) → (Nat → Prop) → World → Prop) (b z : Nat → Option Nat) (l : Array Bool) (v : Nat → Value) (T : Nat → Nat → Prop) (w : World) (i : Nat) (x : Value) (U : Nat → Prop) (w' : World) : Prop where
  low : Below 0 w w'
  keep : ∀ g, g < w.heap.size → z i ≠ some g → (∀ c, b c = some i → Live b l c → ¬ T c g) → w'.heap[g]? = w.heap[g]?
  f : F i (upd v i x) U w'
  u : ∀ g, U g → g < w'.heap.size ∧ (w.heap.size ≤ g ∨ z i = some g ∨ ∃ c, b c = some i ∧ Live b l c ∧ T c g)
section
variable {P : Program} {ops : Array Oper} {Q : Exit → Act → World → Prop}
theorem wp_region_puts {id : Nat} {a0 : Act} {w0 : World} (hm : P.follows .mixedOrders = true) (F : Nat → (Nat → Value) → (Nat → Prop) → World → Prop) (b z : Nat → Option Nat) (sup : Nat → List Nat)
    (hb : backward .any ops = true) (hd : apartD ops = true) (hz : ∀ i j g, z i = some g → z j = some g → i = j) (hzo : ∀ i g, z i = some g → g < w0.heap.size) (hzb : ∀ c i, b c = some i → z c = none)
    (hsup : ((List.range ops.size).all fun i => (sup i).all fun j => j == i || Region.waitsFor .any ops i j) = true)
    (hF : ∀ i v v' T w, i < ops.size → (∀ j, j ∈ sup i → v j = v' j) → F i v T w → F i v' T w)
    (hk : ∀ i v T w w', i < ops.size → F i v T w → w.heap.size ≤ w'.heap.size → (∀ g, g < w.heap.size → (g < w0.heap.size ∧ (∀ k, z k ≠ some g) ∨ T g) → w'.heap[g]? = w.heap[g]?) → F i v T w')
    (hstep : ∀ l v T w i, i < ops.size → (∀ j, Region.waitsFor .any ops i j = true → l.getD j false = true) → l.getD i false = false → St ops F b z w0 l v T w → ∀ (A : Act) (K : Act → World → Prop),
      (∀ j t, l.getD j false = true → j < ops.size → dstOf ops j = some t → t < a0.tmps.size → A.eval (.tmp t) = v j) → (∀ t, noDst ops t = true → A.eval (.tmp t) = a0.eval (.tmp t)) →
      (∀ x U w', Gives F b z l v T w i x U w' → K (A.put (dstOf ops i) x) w') → wpOp P ops Q i K A w)
    (hend : ∀ l v T w, (∀ i, i < ops.size → l.getD i false = true) → St ops F b z w0 l v T w → Q .normal (putAll ops v a0 ops.size) w) : (Code.region id ops true).wp P Q a0 w0 := by
  refine wp_region_rely hm (fun l a w => ∃ v T, a = puts ops v l a0 ops.size ∧ St ops F b z w0 l v T w) hb ?_ ?_ ?_
  · refine ⟨fun _ => undef, fun _ _ => False, ?_, by simp, (Below.refl 0 w0).drew, fun _ _ _ => rfl, ?_, ?_, ?_, ?_⟩
    · have : ∀ n, puts ops (fun _ => undef) (Array.replicate ops.size false) a0 n = a0 := by
        intro n
        induction n with
        | zero => rfl
        | succ n ih => unfold puts; rw [if_neg (by simp [Array.getD_eq_getD_getElem?, Array.getElem?_replicate]; split <;> simp), ih]
      exact (this _).symm
    · intro i h; have := h.1; simp [Array.getD_eq_getD_getElem?, Array.getElem?_replicate] at this; split at this <;> simp at this
    · intro i _ g h; exact h.elim
    · intro i j _ _ _ g h; exact h.elim
    · intro i o h; simp [Array.getD_eq_getD_getElem?, Array.getElem?_replicate] at h; split at h <;> simp at h
  · rintro l a w i hi hs ⟨v, T, rfl, hS⟩
    obtain ⟨hun, o, ho, haft⟩ := mem_ready.1 hi
    have hun' : l.getD i false = false := getD_both hun
    have his : i < ops.size := by obtain ⟨h, -⟩ := Array.getElem?_eq_some_iff.1 ho; exact h
    refine hstep l v T w i his (fun j hj => ?_) hun' hS _ _ (fun j t hj hjs ht hts => puts_eval hd v a0 hj ht hts _ hjs) (fun t ht => puts_eval_other v a0 (no_dst ht) _) fun x U w' hG => ?_
    · obtain ⟨oi, hoi, e, he, hbi, hon⟩ := Region.waitsFor_spec hj
      rw [ho] at hoi
      injection hoi with hoi
      subst hoi
      rw [← hon]
      exact haft e he hbi
    have hil : i < l.size := by omega
    have hone : ∀ j, Live b (l.setIfInBounds i true) j → j ≠ i → Live b l j ∧ b j ≠ some i := fun j hj hji => by
      refine ⟨⟨by have := hj.1; rw [getD_set_ne false (Ne.symm hji)] at this; exact this, fun k hk => ?_⟩, fun hk => ?_⟩
      · have := hj.2 k hk
        by_cases hki : i = k
        · subst hki; exact hun'
        · rw [getD_set_ne false hki] at this; exact this
      · have := hj.2 i hk
        rw [set_here hil] at this
        cases this
    have hnot : ∀ j, Live b (l.setIfInBounds i true) j → j ≠ i → ∀ g, T j g → z i ≠ some g ∧ ∀ c, b c = some i → Live b l c → ¬ T c g := fun j hj hji g hg => by
      obtain ⟨h1, h2⟩ := hone j hj hji
      refine ⟨fun hzi => ?_, fun c hc hlc hcg => ?_⟩
      · rcases (hS.t j h1 g hg).1 with h3 | h3
        · have := hzo i g hzi; omega
        · exact hji (hz j i g h3 hzi)
      · refine hS.d j c h1 hlc (fun q => ?_) g hg hcg
        subst q
        exact h2 hc
    refine ⟨upd v i x, upd T i U, puts_put hd v a0 x hun' hil _ his, by simpa using hS.sz, hS.low.trans hG.low, fun g hg hgz => ?_, fun j hj => ?_, fun j hj g hg => ?_, fun j k hj hk hjk g hg hgk => ?_, fun j oj hj hoj e he hbe => ?_⟩
    · have h1 : ∀ k, l.getD k false = true → z k ≠ some g := fun k hk => hgz k (getD_set_true hk)
      rw [← hS.old g hg h1]
      refine hG.keep g (Nat.lt_of_lt_of_le hg hS.low.size) (hgz i (set_here hil)) fun c hc hlc hcg => ?_
      rcases (hS.t c hlc g hcg).1 with h3 | h3
      · omega
      · exact h1 c hlc.1 h3
    · by_cases hji : j = i
      · subst hji; rw [upd_at]; exact hG.f
      · rw [upd_ne _ _ hji]
        obtain ⟨h1, h2⟩ := hone j hj hji
        have hjs : j < ops.size := by
          rcases Nat.lt_or_ge j ops.size with h | h
          · exact h
          · have h3 := h1.1
            rw [Array.getD_eq_getD_getElem?, Array.getElem?_eq_none (by have := hS.sz; omega)] at h3
            cases h3
        refine hF j v _ _ _ hjs (fun k hk => ?_) (hk j v (T j) w w' hjs (hS.f j h1) hG.low.size fun g hg hgT => ?_)
        · by_cases hki : k = i
          · exfalso
            subst hki
            have h3 := List.all_eq_true.1 (List.all_eq_true.1 hsup j (List.mem_range.2 hjs)) k hk
            rw [Bool.or_eq_true] at h3
            rcases h3 with h3 | h3
            · exact hji (by simpa using (beq_iff_eq.1 h3).symm)
            · obtain ⟨oj, hoj, e, he, hbi, hon⟩ := Region.waitsFor_spec h3
              have h4 := hS.c j oj h1.1 hoj e he hbi
              rw [hon, hun'] at h4
              cases h4
          · rw [upd_ne _ _ hki]
        · rcases hgT with ⟨hgT, hgz⟩ | hgT
          · refine hG.keep g hg (hgz i) fun c hc hlc hcg => ?_
            rcases (hS.t c hlc g hcg).1 with h3 | h3
            · omega
            · exact hgz c h3
          · obtain ⟨h3, h4⟩ := hnot j hj hji g hgT
            exact hG.keep g hg h3 h4
    · by_cases hji : j = i
      · subst hji
        rw [upd_at] at hg
        obtain ⟨h1, h2⟩ := hG.u g hg
        refine ⟨?_, h1⟩
        rcases h2 with h2 | h2 | ⟨c, hc1, hc2, hc3⟩
        · exact .inl (Nat.le_trans hS.low.size h2)
        · exact .inr h2
        · rcases (hS.t c hc2 g hc3).1 with h3 | h3
          · exact .inl h3
          · rw [hzb c j hc1] at h3; cases h3
      · rw [upd_ne _ _ hji] at hg
        have h1 := hS.t j (hone j hj hji).1 g hg
        exact ⟨h1.1, Nat.lt_of_lt_of_le h1.2 hG.low.size⟩
    · have new : ∀ m, Live b (l.setIfInBounds i true) m → m ≠ i → T m g → U g → False := fun m hm hmi hgm hgU => by
        obtain ⟨h3, h4⟩ := hnot m hm hmi g hgm
        rcases (hG.u g hgU).2 with h2 | h2 | ⟨c, hc1, hc2, hc3⟩
        · have := (hS.t m (hone m hm hmi).1 g hgm).2; omega
        · exact h3 h2
        · exact h4 c hc1 hc2 hc3
      by_cases hji : j = i
      · subst hji
        rw [upd_at] at hg
        rw [upd_ne _ _ (Ne.symm hjk)] at hgk
        exact new k hk (Ne.symm hjk) hgk hg
      · rw [upd_ne _ _ hji] at hg
        by_cases hki : k = i
        · subst hki
          rw [upd_at] at hgk
          exact new j hj hji hg hgk
        · rw [upd_ne _ _ hki] at hgk
          exact hS.d j k (hone j hj hji).1 (hone k hk hki).1 hjk g hg hgk
    · by_cases hji : j = i
      · subst hji
        rw [ho] at hoj
        injection hoj with hoj
        subst hoj
        exact getD_set_true (haft e he hbe)
      · rw [getD_set_ne false (Ne.symm hji)] at hj
        exact getD_set_true (hS.c j oj hj hoj e he hbe)
  · rintro l a w ⟨v, T, rfl, hS⟩ hall
    have hall' : ∀ i, i < ops.size → l.getD i false = true := fun i hi => by
      have h1 := hall i hi
      have h2 : i < l.size := by have := hS.sz; omega
      rw [Array.getD_eq_getD_getElem?, Array.getElem?_eq_getElem h2] at h1 ⊢
      exact h1
    rw [puts_all v a0 _ hall']
    exact hend l v T w hall' hS
theorem lt_k {a b : Nat} (h : Nat.blt a b = true) : a < b := Nat.le_of_ble_eq_true h
theorem St.wait {F : Nat → (Nat → Value) → (Nat → Prop) → World → Prop} {b z : Nat → Option Nat} {w0 w : World} {l : Array Bool} {v : Nat → Value} {T : Nat → Nat → Prop} (h : St ops F b z w0 l v T w) {i j : Nat} (hi : l.getD i false = true) (hw : Region.waitsFor .any ops i j = true) : l.getD j false = true := by
  obtain ⟨o, ho, e, he, hb, hon⟩ := Region.waitsFor_spec hw
  rw [← hon]
  exact h.c i o hi ho e he hb
theorem St.below {F : Nat → (Nat → Value) → (Nat → Prop) → World → Prop} {b z : Nat → Option Nat} {w0 w : World} {l : Array Bool} {v : Nat → Value} {T : Nat → Nat → Prop} (h : St ops F b z w0 l v T w) {C : Nat} (hC : C ≤ w0.heap.size) (hz : ∀ k g, z k = some g → C ≤ g) : Below C w0 w :=
  ⟨h.low.os, h.low.tape, h.low.output, h.low.size, fun g hg => h.old g (by omega) fun k _ hk => by have := hz k g hk; omega⟩
section
variable {F : Nat → (Nat → Value) → (Nat → Prop) → World → Prop} {b z : Nat → Option Nat} {l : Array Bool} {v : Nat → Value} {T : Nat → Nat → Prop} {w w' : World} {i : Nat} {x : Value} {U : Nat → Prop}
theorem Gives.read (hf : F i (upd v i x) (fun _ => False) w) : Gives F b z l v T w i x (fun _ => False) w := ⟨Below.refl _ _, fun _ _ _ _ => rfl, hf, fun _ h => h.elim⟩
theorem Gives.make (hb : Below w.heap.size w w') (hf : F i (upd v i x) U w') (hu : ∀ g, U g → w.heap.size ≤ g ∧ g < w'.heap.size) : Gives F b z l v T w i x U w' := ⟨hb.mono (Nat.zero_le _), fun g hg _ _ => hb.block g hg, hf, fun g h => ⟨(hu g h).2, .inl (hu g h).1⟩⟩
theorem Gives.old {g0 : Nat} (hz : z i = some g0) (hb : Below 0 w w') (hk : ∀ g, g < w.heap.size → g ≠ g0 → w'.heap[g]? = w.heap[g]?) (hg' : g0 < w'.heap.size) (hf : F i (upd v i x) (fun g => g = g0) w') : Gives F b z l v T w i x (fun g => g = g0) w' :=
  ⟨hb, fun g h hn _ => hk g h fun q => hn (by rw [q]; exact hz), hf, fun g h => ⟨by rw [h]; exact hg', .inr (.inl (by rw [h]; exact hz))⟩⟩
end
theorem Live.all {b : Nat → Option Nat} {l : Array Bool} {i n : Nat} (h : ∀ i, i < n → l.getD i false = true) (hi : i < n) (hb : b i = none) : Live b l i := ⟨h i hi, fun k hk => by rw [hb] at hk; cases hk⟩
theorem Live.none_ {b : Nat → Option Nat} {l : Array Bool} {i : Nat} (h : l.getD i false = true) (hb : b i = none) : Live b l i := ⟨h, fun m hm => by rw [hb] at hm; cases hm⟩
end
end Go.Proofs.YtiikhjifjdpgdaaDoor
