/-
  KIter
  KIterA
-/
import Derived.RangeFuncNested
import Derived.Below
namespace Go.Proofs.YteekdhcffiaaaaaDoor
open Go Go.RowKit

def Stays {β : Type} (B : Nat) (I : β → World → Prop) : Prop := ∀ s W l o o', I s W → B ≤ l → W.heap[l]? = some o → o.isCells = false → I s (W.putObj l o')
def Grows {β : Type} (I : β → World → Prop) : Prop := ∀ s W W', I s W → Below W.heap.size W W' → I s W'
def bodyEnd {α : Type} (B : Nat) (Kp : World → World → Prop) (I Ix : List α → World → Prop) (xs : List α) (W : World) : Exit → Act → World → Prop
  | .normal, _, W' => KeepsFrom B W W' ∧ Kp W W' ∧ I xs W'
  | .ret, _, W' => KeepsFrom B W W' ∧ Ix xs W'
  | _, _, _ => False
def Iter {α : Type} (n : Nat) (P : Program) (gf : Nat) (lb : Array Value) (encs : α → Array Value) (Mx : α → World → Prop) (Kp : World → World → Prop) (S Sp : List α → Prop) (N : Nat) (w : World) : Prop :=
  ∀ (l : Nat) (J Jx : List α → World → Prop) (W : World), Below w.heap.size w W → Grows J → Grows Jx →
    (∀ pre x W1, J pre W1 → Mx x W1 → pre.length < N → YieldAt Fence.wide (n - 1) P l (encs x) W1 fun e W' => (e = .returned (.bool true) ∧ J (pre ++ [x]) W' ∧ Kp W1 W') ∨ (e = .returned (.bool false) ∧ Jx (pre ++ [x]) W')) →
    J [] W → CallsIn Fence.wide n P gf (#[.func (.yield l) #[] #[]] ++ lb) W fun e W' => (∃ v, e = .returned v) ∧ ((∃ xs, S xs ∧ J xs W') ∨ (∃ pre, Sp pre ∧ Jx pre W'))

theorem block_kept {W W' : World} {k : Nat} {o : Obj} (h : W.heap[k]? = some o) (hb : Below W.heap.size W W') : W'.heap[k]? = some o :=
  (hb.block k (Array.getElem?_eq_some_iff.1 h).1).trans h

end Go.Proofs.YteekdhcffiaaaaaDoor
namespace Go.Proofs.YteekdhcffiaaaaaDoor
open Go Go.RowKit

theorem wpIn_range_made {α : Type} {n : Nat} {P : Program} {g : Operand} {ps : Array Tmp} {assign body : Code} {Q : Exit → Act → World → Prop} {a : Act} {w : World}
    (h1 : 1 ≤ n) {gf : Nat} {lb : Array Value} (hg : a.eval g = .func (.func gf) #[] lb) (eg : ∀ args w, (callFunc gf args).run P w = .ok (.enter gf args) w)
    {encs : α → Array Value} (hps : ∀ x, (encs x).size = ps.size) {Mx : α → World → Prop} {Kp : World → World → Prop} {S Sp : List α → Prop} {N : Nat} (hit : Iter (n - 1) P gf lb encs Mx Kp S Sp N w)
    (hKt : ∀ A B C, Kp A B → Kp B C → Kp A C) (hKp : ∀ W l o o', w.heap.size ≤ l → W.heap[l]? = some o → o.isCells = false → Kp W (W.putObj l o'))
    (hMx : Stays w.heap.size Mx) (I Ix : List α → World → Prop) (hI : Stays w.heap.size I) (hIx : Stays w.heap.size Ix) (gI : Grows I) (gIx : Grows Ix) (h0 : I [] w) (Pa : α → Act → World → Prop) (hPa : ∀ x a' W l o o', Pa x a' W → w.heap.size ≤ l → W.heap[l]? = some o → o.isCells = false → Pa x a' (W.putObj l o')) (gMx : Grows Mx) (hKb : ∀ W W', w.heap.size ≤ W.heap.size → Below W.heap.size W W' → Kp W W')
    (hassign : ∀ (l : Nat) (x : α) (W : World) (K : Act → World → Prop), (∀ a' W', Below W.heap.size W W' → Pa x a' W' → K a' W') →
      assign.wpIn (Fence.wide.inRound l) (n - 1 - 1) P (Exit.then K (fun _ _ _ => False)) { tmps := (ps.zip (encs x)).foldl (fun t (p, v) => t.setIfInBounds p v) a.tmps, defers := [] } W)
    (hbody : ∀ (l : Nat) (pre : List α) (x : α) (a' : Act) (W : World), I pre W → Mx x W → Pa x a' W → pre.length < N → body.wpIn (Fence.wide.inRound l) (n - 1 - 1) P (bodyEnd w.heap.size Kp I Ix (pre ++ [x]) W) a' W)
    (hdone : ∀ (D : Nat) (xs : List α) (W : World), w.heap.size ≤ D → S xs → I xs W → W.heap[D]? = some (.deferred (some [])) → Q .normal { a with defers := { target := .collected D, args := #[] } :: a.defers } W)
    (hstop : ∀ (D : Nat) (pre : List α) (W : World), w.heap.size ≤ D → Sp pre → Ix pre W → W.heap[D]? = some (.deferred (some [])) → Code.ret.wpIn Fence.wide n P Q { a with defers := { target := .collected D, args := #[] } :: a.defers } W) :
    (Code.rangeFunc g ps assign body).wpIn Fence.wide n P Q a w := by
  refine wpIn_rangeFunc fun fn hfn => ?_
  -- the loop's record, by its state and its pending jump
  obtain ⟨R, hR⟩ : ∃ R : LoopState → Option Code → Loop, ∀ s j, R s j = { state := s, pending := j, fn := fn, tmps := a.tmps, params := ps, assign := assign, body := body, defers := w.heap.size } := ⟨_, fun _ _ => rfl⟩
  have hD0 : ((w.alloc (.deferred (some []))).alloc (.loop (R .ready none))).heap[w.heap.size]? = some (.deferred (some [])) := (Below.heap_alloc _ _ _ (by simp)).trans (World.alloc_heap_new w _)
  have hL0 : ((w.alloc (.deferred (some []))).alloc (.loop (R .ready none))).heap[w.heap.size + 1]? = some (.loop (R .ready none)) := by
    have := World.alloc_heap_new (w.alloc (.deferred (some []))) (.loop (R .ready none))
    rwa [World.size_alloc] at this
  have hbel : Below w.heap.size w ((w.alloc (.deferred (some []))).alloc (.loop (R .ready none))) := ((Below.refl _ w).alloc (Nat.le_refl _) _).alloc (by simp) _
  refine ⟨w.heap.size + 1, [{ target := .collected w.heap.size, args := #[] }], (w.alloc (.deferred (some []))).alloc (.loop (R .ready none)), { target := .fn (.func gf) lb, args := #[.func (.yield (w.heap.size + 1)) #[] #[]] }, (w.alloc (.deferred (some []))).alloc (.loop (R .ready none)), gf,
    #[.func (.yield (w.heap.size + 1)) #[] #[]] ++ lb, (w.alloc (.deferred (some []))).alloc (.loop (R .ready none)), ?_, ?_, fun _ _ => trivial, by simp [invoke, go_sem, eg], fun _ => h1, ?_⟩
  · rw [hR]; exact run_enterLoop_outer _ _ _ _ _
  · simp only [resolve, hg]
    simp [go_sem]
  generalize (w.alloc (.deferred (some []))).alloc (.loop (R .ready none)) = W1 at hD0 hL0 hbel ⊢
  -- the caller's invariant, with the two blocks of the loop's own beside it
  let J : List α → World → Prop := fun pre W => I pre W ∧ W.heap[w.heap.size + 1]? = some (.loop (R .ready none)) ∧ W.heap[w.heap.size]? = some (.deferred (some []))
  let Jx : List α → World → Prop := fun pre W => Ix pre W ∧ W.heap[w.heap.size + 1]? = some (.loop (R .done (some .ret))) ∧ W.heap[w.heap.size]? = some (.deferred (some []))
  have gJ : Grows J := fun s A B h hb => ⟨gI s A B h.1 hb, block_kept h.2.1 hb, block_kept h.2.2 hb⟩
  have gJx : Grows Jx := fun s A B h hb => ⟨gIx s A B h.1 hb, block_kept h.2.1 hb, block_kept h.2.2 hb⟩
  have hI1 : I [] W1 := gI [] w W1 h0 hbel
  refine (hit (w.heap.size + 1) J Jx W1 hbel gJ gJx ?_ ⟨hI1, hL0, hD0⟩).mono ?_
  · -- one round
    rintro pre x V ⟨hi, hl, hd⟩ hm hN
    have hlt : w.heap.size + 1 < V.heap.size := (Array.getElem?_eq_some_iff.1 hl).1
    have hy := run_yield (P := P) (args := encs x) hl (by rw [hR]; exact hps x)
    rw [hR] at hy
    refine ⟨fn, _, assign, body, hy, roundIn_of_wpIn hfn (hassign _ x V _ fun a' W hVW hpa => ⟨_, run_beginRound (block_kept hl hVW) (by rw [hR]), ?_⟩)⟩
    have hkV : Kp V W := hKb V W (by omega) hVW
    replace hi := gI _ _ _ hi hVW
    replace hm := gMx _ _ _ hm hVW
    replace hl := block_kept hl hVW
    replace hd := block_kept hd hVW
    replace hlt : w.heap.size + 1 < W.heap.size := (Array.getElem?_eq_some_iff.1 hl).1
    have hbusy : ({ R .ready none with state := .busy } : Loop) = R .busy none := by rw [hR, hR]
    rw [hbusy]
    obtain ⟨W2, hW2⟩ : ∃ W2, W2 = W.putObj (w.heap.size + 1) (.loop (R .busy none)) := ⟨_, rfl⟩
    have hl2 : W2.heap[w.heap.size + 1]? = some (.loop (R .busy none)) := hW2 ▸ World.putObj_heap_same hlt
    have hd2 : W2.heap[w.heap.size]? = some (.deferred (some [])) := hW2 ▸ (World.putObj_heap_other (by omega)).trans hd
    have hk2 : Kp W W2 := hW2 ▸ hKp W _ _ _ (by omega) hl rfl
    have hi2 : I pre W2 := hW2 ▸ hI _ _ _ _ _ hi (by omega) hl rfl
    have hm2 : Mx x W2 := hW2 ▸ hMx _ _ _ _ _ hm (by omega) hl rfl
    have hp2 : Pa x a' W2 := hW2 ▸ hPa _ _ _ _ _ _ hpa (by omega) hl rfl
    rw [← hW2]
    refine wpIn_mono (hbody _ pre x a' W2 hi2 hm2 hp2 hN) ?_
    have close : ∀ (jump : Option Code) (W3 : World), KeepsFrom w.heap.size W2 W3 → ∃ W4, (Instr.endRound (w.heap.size + 1) jump).run P W3 = .ok (.bool jump.isNone) W4 ∧ W4 = W3.putObj (w.heap.size + 1) (.loop (R (if jump.isNone then .ready else .done) jump)) ∧
        W3.heap[w.heap.size + 1]? = some (.loop (R .busy none)) ∧ W4.heap[w.heap.size + 1]? = some (.loop (R (if jump.isNone then .ready else .done) jump)) ∧ W4.heap[w.heap.size]? = some (.deferred (some [])) := fun jump W3 hk => by
      have hl3 := hk.same _ _ (by omega) hl2 rfl
      have he := run_endRound (P := P) jump hl3
      rw [hR] at he
      exact ⟨_, he, by rw [hR], hl3, by rw [hR]; exact World.putObj_heap_same (Array.getElem?_eq_some_iff.1 hl3).1, (World.putObj_heap_other (by omega)).trans (hk.same _ _ (Nat.le_refl _) hd2 rfl)⟩
    intro e a3 W3 hp
    cases e with
    | normal =>
      obtain ⟨hk, hkp, hi3⟩ := hp
      obtain ⟨W4, he, hW4, hl3, hl4, hd4⟩ := close none W3 hk
      refine ⟨_, W4, he, .inl ⟨rfl, ⟨?_, hl4, hd4⟩, ?_⟩⟩
      · rw [hW4]; exact hI _ _ _ _ _ hi3 (by omega) hl3 rfl
      · rw [hW4]; exact hKt _ _ _ (hKt _ _ _ (hKt _ _ _ hkV hk2) hkp) (hKp _ _ _ _ (by omega) hl3 rfl)
    | ret =>
      obtain ⟨hk, hi3⟩ := hp
      obtain ⟨W4, he, hW4, hl3, hl4, hd4⟩ := close (some .ret) W3 hk
      refine ⟨_, W4, he, .inr ⟨rfl, ?_, hl4, hd4⟩⟩
      rw [hW4]; exact hIx _ _ _ _ _ hi3 (by omega) hl3 rfl
    | exit id => exact hp.elim
    | goto t => exact hp.elim
    | panic c => exact hp.elim
    | outgrown => exact hp.elim
  · -- behind the iterator
    rintro e W2 ⟨⟨v, rfl⟩, ⟨xs, hS, hi, hl, hd⟩ | ⟨pre, hSp, hi, hl, hd⟩⟩
    · refine ⟨none, _, ?_, hdone _ xs _ (Nat.le_refl _) hS (hI _ _ _ _ (.loop { R .ready none with state := .exhausted }) hi (by omega) hl rfl) ((World.putObj_heap_other (by omega)).trans hd)⟩
      have he := run_endLoop (P := P) hl (by rw [hR]; simp)
      rw [he, hR]
    · refine ⟨some .ret, _, ?_, hstop _ pre _ (Nat.le_refl _) hSp (hIx _ _ _ _ (.loop { R .done (some .ret) with state := .exhausted }) hi (by omega) hl rfl) ((World.putObj_heap_other (by omega)).trans hd)⟩
      have he := run_endLoop (P := P) hl (by rw [hR]; simp)
      rw [he, hR]
end Go.Proofs.YteekdhcffiaaaaaDoor
