/-
  KTwo
-/
import Derived.Test.YteekdhcffiaaaaaDoorKAnyG
import Derived.Test.YteekdhcffiaaaaaDoorPk18
import Derived.Test.YteekdhcffiaaaaaDoorPk19
import Derived.Test.YteekdhcffiaaaaaDoorPk3
namespace Go.Proofs.YteekdhcffiaaaaaDoor
open Go Go.RowKit Sh Leaf

section
variable {P : Program} {ops : Array Oper} {Q : Exit → Act → World → Prop} {md : Region.Mode} {C B : World → Prop} {ks : List Nat}
theorem AnyG_two {i j : Nat} {o o2 : Oper} {fuel : Nat} {listed : Array Bool} {a : Act} {w : World} (hr : Region.ready md ops listed = [i, j]) (ho : ops[i]? = some o) (ho2 : ops[j]? = some o2)
    (h : ∀ K' : Act → World → Prop, Shut (∀ a w, (come ks (listed.setIfInBounds i true) = true ∨ C w) → B w → AnyG P md ops Q C B ks fuel (listed.setIfInBounds i true) a w → K' a w) → if Region.wanted o (yielded ops a.tmps) = true then Oper.wp P o a w K' Q else K' (a.put o.dst undef) w)
    (h2 : ∀ K' : Act → World → Prop, Shut (∀ a w, (come ks (listed.setIfInBounds j true) = true ∨ C w) → B w → AnyG P md ops Q C B ks fuel (listed.setIfInBounds j true) a w → K' a w) → if Region.wanted o2 (yielded ops a.tmps) = true then Oper.wp P o2 a w K' Q else K' (a.put o2.dst undef) w) :
    AnyG P md ops Q C B ks (fuel + 1) listed a w := fun _ => ⟨fun h0 => (by rw [hr] at h0; cases h0), fun k hk => by
  rw [hr] at hk
  have e : k = i ∨ k = j := by simpa using hk
  rcases e with e | e
  · subst e
    exact wpOp_step ho (fun K' hK => h K' (fun a w hS hB hW => hK a w ⟨⟨hS, hB⟩, hW⟩))
  · subst e
    exact wpOp_step ho2 (fun K' hK => h2 K' (fun a w hS hB hW => hK a w ⟨⟨hS, hB⟩, hW⟩))⟩
end
theorem own_ne {w : World} {base base' : Nat} {e e' : TypeId} {s s' n n' : Nat} {v v' : Value} {xs xs' : List Value} (h : w.ownsRow base e s v n xs) (h' : w.ownsRow base' e' s' v' n' xs') (he : e ≠ e') : v.ownBlock = none ∨ v.ownBlock ≠ v'.ownBlock := by
  rcases h.2 with ⟨rfl, _⟩ | ⟨g, cap, cur, rfl, hg, hh, _⟩
  · exact .inl rfl
  · right
    rcases h'.2 with ⟨rfl, _⟩ | ⟨g', cap', cur', rfl, hg', hh', _⟩
    · intro q; cases q
    · intro q
      have q : some g = some g' := q
      injection q with q
      subst q
      rw [hh] at hh'
      injection hh' with hh'
      injection hh' with _ ht
      exact he ht
def bf (x : B8) : List Value := [byt x]
theorem bf_len (x : B8) : (bf x).length = 1 := rfl
theorem bf_one (x : B8) : ∀ v ∈ bf x, v.oneCell' = true := by intro v hv; rw [List.mem_singleton.1 hv]; rfl
theorem fl_bf (l : List B8) : fl bf l = l.map byt := by
  induction l with
  | nil => rfl
  | cons x t ih => rw [fl_cons, ih]; rfl
theorem seq_bytes {w : World} {Q : Nat → Prop} {A : Option Addr} {c : Nat} {l : List B8} (h : Bytes w Q (.slice A l.length c) l) : Seq bf (fun _ => True) w Q A c l := by
  obtain ⟨A', c', he, h1, h2, h3, h4⟩ := h
  injection he with e1 e2 e3
  subst e1 e3
  refine ⟨h1, h2, h3, fun _ _ => trivial, fun hl => ?_⟩
  obtain ⟨g, o, hA, hq, hc⟩ := h4 hl
  have h0 := hc 0 l[0] (by simp [hl])
  refine ⟨g, o, hA, hq, block_lt_of_cell h0, fun j v hj => ?_⟩
  rw [fl_bf, List.getElem?_map] at hj
  obtain ⟨x, hx, rfl⟩ := Option.map_eq_some_iff.1 hj
  exact hc j x hx
theorem bytes_seq {w : World} {Q : Nat → Prop} {A : Option Addr} {c : Nat} {l : List B8} (h : Seq bf (fun _ => True) w Q A c l) : Bytes w Q (.slice A l.length c) l := by
  obtain ⟨h1, h2, h3, _, h4⟩ := h
  refine ⟨A, c, rfl, h1, h2, h3, fun hl => ?_⟩
  obtain ⟨g, o, hA, hq, hg, hc⟩ := h4 hl
  refine ⟨g, o, hA, hq, fun j x hj => hc j (byt x) ?_⟩
  rw [fl_bf, List.getElem?_map, hj]
  rfl
abbrev OwnBf (w : World) (base : Nat) (v : Value) (l : List B8) : Prop := OwnS bf 1 5 w base v l
theorem mac_ne_u8 : 69 ≠ 5 := by decide
theorem u8_ne_mac : 5 ≠ 69 := by decide
theorem byte_size : (Value.int .u8 0).cells.size = 1 := rfl
theorem step_buildSlice_mac {w : World} {ops : Array Oper} {o : Oper} {a : Act} {K : Act → World → Prop} {R : Exit → Act → World → Prop} {E : Prop} (hw : Region.wanted o (yielded ops a.tmps) = true) (x : Operand) (ho : o.op = .buildSlice 29 1 #[(0, x)])
    {X : MeM} (hx : a.eval x = .agg (mcl X).toArray) (h : K (a.put o.dst (.slice (some ⟨w.heap.size, 0, none⟩) 1 1)) (w.alloc (.cells (mcl X).toArray 69))) :
    if Region.wanted o (yielded ops a.tmps) = true then Oper.wp Tryd.prog o a w K R else E := by
  rw [if_pos hw]
  have hf := bs_mac X
  unfold Program.builtSlice at hf
  cases hie : Tryd.prog.info? 69 with
  | none => simp [hie] at hf
  | some ie =>
    simp only [hie] at hf
    cases hz : ie.zero with
    | none => simp [hz] at hf
    | some z =>
      simp only [hz] at hf
      by_cases hc : 1 * ie.size > 2 ^ 24 ∨ 1 * ie.size = 0
      · rw [if_pos hc] at hf; cases hf
      · rw [if_neg hc] at hf
        have e1 : (#[(0, x)].map fun (i, x) => (i, a.eval x)).toList = [(0, .agg (mcl X).toArray)] := by simp [hx]
        refine wp_buildSlice 29 69 1 _ ho (mcl X).toArray ie z Tryd.underlying29 hie hz (fun h' => hc (Or.inl h')) (fun h' => hc (Or.inr h')) ?_ h
        rw [e1]
        exact hf
end Go.Proofs.YteekdhcffiaaaaaDoor
